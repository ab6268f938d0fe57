/-
  Ranges and their expressions, as plain lists of bytes: which range an expression's bytes are, or what is wrong and where; which ranges are right; a range's text. No condition.
-/
import Derived.Test.YtolkcblkciafiaaDoorSvPlain
namespace Go.Proofs.YtolkcblkciafiaaDoor.Range
open Num Ident Semver

/-- A range: its kind, its version, its ranges. -/
inductive Rng where
  | mk (kind : Int) (v : Ver) (l : List Rng)
def Rng.kind : Rng → Int
  | .mk k _ _ => k
def Rng.ver : Rng → Ver
  | .mk _ v _ => v
def Rng.subs : Rng → List Rng
  | .mk _ _ l => l
theorem Rng.eta (r : Rng) : Rng.mk r.kind r.ver r.subs = r := by cases r; rfl
def noRng : Rng := .mk 0 noVer []
instance : Inhabited Rng := ⟨noRng⟩

/-- Is this byte a blank? -/
def blankB (b : UInt8) : Bool := b == 32 || b == 9
/-- What stands behind blanks. -/
def blanks : List UInt8 → List UInt8
  | [] => []
  | b :: s => if blankB b then blanks s else b :: s
/-- Does a text come next? -/
def stands (t s : List UInt8) : Bool := t.isPrefixOf s
/-- Is one of some bytes next? -/
def oneOf (some s : List UInt8) : Bool := match s with
  | [] => false
  | b :: _ => decide (b ∈ some)
/-- What is wrong, where something else is to come next. -/
def lackN (s : List UInt8) : Nat := if s = [] then 5 else 3
def digits : List UInt8 := [48, 49, 50, 51, 52, 53, 54, 55, 56, 57]
def starts : List UInt8 := [40, 33, 42, 62, 60, 61, 94, 126, 48, 49, 50, 51, 52, 53, 54, 55, 56, 57]
def ops : List (List UInt8) := [[62, 61], [62], [60, 61], [60], [61], [33, 61], [94], [126]]
/-- The first op from a place of the table on that comes next, and its kind. -/
def opFrom (s : List UInt8) : List (List UInt8) → Int → Int × List UInt8
  | [], _ => (5, [])
  | t :: r, k => if stands t s then (k, t) else opFrom s r (k + 1)
def opOf (s : List UInt8) : Int × List UInt8 := opFrom s ops 1
/-- What a reader answers: the error, what stands from its place on, the range. -/
abbrev Out := Nat × List UInt8 × Rng
/-- A version, and the blanks behind it. -/
def verAt (kind : Int) (s : List UInt8) : Out :=
  if oneOf digits s = true then
    if (vparse s 0).1 ≠ 0 then ((vparse s 0).1, s.drop (vparse s 0).2.1, noRng) else (0, blanks (s.drop (vparse s 0).2.1), .mk kind (vparse s 0).2.2 [])
  else (lackN s, s, noRng)
/-- Of one part it, else all of them. -/
def whole (kind : Int) (acc : List Rng) (r : Rng) : Rng := if acc = [] then r else .mk kind noVer (acc ++ [r])
/-- Parts as long as a further one is there. -/
def sev (pf : List UInt8 → Out) (ff : List UInt8 → Option (List UInt8)) (kind : Int) : Nat → List Rng → List UInt8 → Out
  | 0, _, s => (99, s, noRng)
  | n + 1, acc, s => if (pf s).1 ≠ 0 then ((pf s).1, (pf s).2.1, noRng) else
    match ff (pf s).2.1 with
    | some s' => sev pf ff kind n (acc ++ [(pf s).2.2]) s'
    | none => (0, (pf s).2.1, whole kind acc (pf s).2.2)
def furE (s : List UInt8) : Option (List UInt8) := if stands [124, 124] s = true then some (blanks (s.drop 2)) else none
def furO (s : List UInt8) : Option (List UInt8) := if stands [44] s = true then some (blanks (s.drop 1)) else if oneOf starts s = true then some s else none
/-- An every, of ones that pf reads. -/
def everyF (pf : List UInt8 → Out) (s : List UInt8) : Out := sev pf furO 9 (s.length + 1) [] s
/-- An expr, of ones that pf reads. -/
def exprF (pf : List UInt8 → Out) (s : List UInt8) : Out := sev (everyF pf) furE 10 (s.length + 1) [] s
/-- Behind what stands in brackets. -/
def shutF (t : Out) : Out := if t.1 ≠ 0 then (t.1, t.2.1, noRng) else if stands [41] t.2.1 = true then (0, blanks (t.2.1.drop 1), t.2.2) else (lackN t.2.1, t.2.1, noRng)
def notF (t : Out) : Out := if t.1 ≠ 0 then (t.1, t.2.1, noRng) else (0, t.2.1, .mk 11 noVer [t.2.2])
/-- A one; what reads the ones that stand one deeper, if they may. -/
def oneF (sub : Option (List UInt8 → Out)) (s : List UInt8) : Out :=
  if stands [42] s = true then (0, blanks (s.drop 1), noRng)
  else if stands [40] s = true then (match sub with
    | none => (8, s, noRng)
    | some f => shutF (exprF f (blanks (s.drop 1))))
  else if (opOf s).2 = [] ∧ stands [33] s = true then (match sub with
    | none => (8, s, noRng)
    | some f => notF (f (blanks (s.drop 1))))
  else verAt (opOf s).1 (blanks (s.drop (opOf s).2.length))
/-- A one that may stand so much deeper. -/
def pone : Nat → List UInt8 → Out
  | 0 => oneF none
  | k + 1 => oneF (some (pone k))
/-- What Parse answers from a place on: the error, the place, the range. -/
abbrev POut := Nat × Nat × Rng
def pparse (l : List UInt8) (p : Int) : POut :=
  if p < 0 ∨ (l.length : Int) < p then (1, 0, noRng) else
    ((exprF (pone 64) (blanks (l.drop p.toNat))).1, l.length - (exprF (pone 64) (blanks (l.drop p.toNat))).2.1.length, (exprF (pone 64) (blanks (l.drop p.toNat))).2.2)
def pread (l : List UInt8) : POut :=
  if (pparse l 0).1 ≠ 0 then ((pparse l 0).1, (pparse l 0).2.1, noRng) else if (pparse l 0).2.1 ≠ l.length then (13, (pparse l 0).2.1, noRng) else (0, 0, (pparse l 0).2.2)

/-- Does a one of a kind stand in brackets within a range of another? -/
def bracketed (outer kind : Int) : Bool := decide (kind = 10 ∨ kind = 9 ∧ outer ≠ 10)
def ofVersion (kind : Int) : Bool := decide (1 ≤ kind ∧ kind ≤ 8)
def opens (outer kind : Int) : Nat := (if outer = 11 then 1 else 0) + (if bracketed outer kind = true then 1 else 0)
/-- Is the version, and how many ranges there are, as the kind asks? -/
def fits (kind : Int) (v : Ver) (n : Nat) : Bool :=
  if ofVersion kind = true then goodV v && decide (n = 0)
  else if sameV v noVer = false then false
  else if kind = 0 then decide (n = 0) else if kind = 9 ∨ kind = 10 then decide (2 ≤ n) else if kind = 11 then decide (n = 1) else false
mutual
/-- Is a range right that stands so deep? -/
def goodR : Rng → Nat → Bool
  | .mk kind v l, deep => decide (deep ≤ 64) && fits kind v l.length && goodL kind l deep
def goodL (outer : Int) : List Rng → Nat → Bool
  | [], _ => true
  | r :: rs, deep => goodR r (deep + opens outer r.kind) && goodL outer rs deep
end
mutual
/-- Are two ranges the same? -/
def sameR : Rng → Rng → Bool
  | .mk k v l, .mk k' v' l' => decide (k = k') && sameV v v' && sameL l l'
def sameL : List Rng → List Rng → Bool
  | [], [] => true
  | r :: rs, q :: qs => sameR r q && sameL rs qs
  | _, _ => false
end
/-- What a range's text begins with. -/
def markR (kind : Int) (v : Ver) : List UInt8 :=
  if kind = 0 then [42] else if kind = 9 ∨ kind = 10 then [] else if kind = 11 then [33] else if ofVersion kind = true then ops.getD (kind - 1).toNat [] ++ vtext v else vtext v
/-- What stands ahead of a one, brackets apart. -/
def aheadR (outer kind : Int) (told : Nat) : List UInt8 :=
  if outer = 11 ∧ kind = 5 then [32] else if told = 0 then [] else if outer = 10 then [32, 124, 124, 32] else [44, 32]
def openR (outer kind : Int) : List UInt8 := if bracketed outer kind = true then [40] else []
def shutR (outer kind : Int) : List UInt8 := if bracketed outer kind = true then [41] else []
/-- How many ones are told. -/
def most (kind : Int) (n : Nat) : Nat := if kind = 9 ∨ kind = 10 then n else if kind = 11 then min 1 n else 0
mutual
/-- A range's text. -/
def textR : Rng → List UInt8
  | .mk kind v l => markR kind v ++ textL kind (most kind l.length) l 0
/-- The texts of the ones from a place on, at most so many. -/
def textL (outer : Int) (m : Nat) : List Rng → Nat → List UInt8
  | [], _ => []
  | r :: rs, i => if i < m then aheadR outer r.kind i ++ (openR outer r.kind ++ textR r ++ shutR outer r.kind) ++ textL outer m rs (i + 1) else []
end
theorem goodR_eq (kind : Int) (v : Ver) (l : List Rng) (deep : Nat) : goodR (.mk kind v l) deep = (decide (deep ≤ 64) && fits kind v l.length && goodL kind l deep) := rfl
theorem goodL_cons (outer : Int) (r : Rng) (rs : List Rng) (deep : Nat) : goodL outer (r :: rs) deep = (goodR r (deep + opens outer r.kind) && goodL outer rs deep) := rfl
theorem sameR_eq (k k' : Int) (v v' : Ver) (l l' : List Rng) : sameR (.mk k v l) (.mk k' v' l') = (decide (k = k') && sameV v v' && sameL l l') := rfl
theorem textR_eq (kind : Int) (v : Ver) (l : List Rng) : textR (.mk kind v l) = markR kind v ++ textL kind (most kind l.length) l 0 := rfl
theorem textL_cons (outer : Int) (m : Nat) (r : Rng) (rs : List Rng) (i : Nat) : textL outer m (r :: rs) i = if i < m then aheadR outer r.kind i ++ (openR outer r.kind ++ textR r ++ shutR outer r.kind) ++ textL outer m rs (i + 1) else [] := rfl
theorem pone_zero (s : List UInt8) : pone 0 s = oneF none s := rfl
theorem pone_succ (k : Nat) (s : List UInt8) : pone (k + 1) s = oneF (some (pone k)) s := rfl
end Go.Proofs.YtolkcblkciafiaaDoor.Range
