/-
  What the theorem of the last text needs of these: SvMath, IdGoodMath, IdMem, IdJoin, SvPlain, RgMath. Conditions: as each theorem states.
-/
import Derived.Test.YtgfbflnhjpbceaaGreatDoorAgaB1
import Derived.Lib.BufferRead
import Derived.Lib.Join
import Derived.Lib.ItoaLen
set_option maxRecDepth 100000
set_option maxHeartbeats 25600000
namespace Go.Proofs.YtgfbflnhjpbceaaGreatDoor.Semver
open Num Ident

structure Ver where
 a : Nat
 b : Nat
 c : Nat
 pre : List (List UInt8)
 build : List (List UInt8)
deriving DecidableEq
def noVer : Ver := ⟨0, 0, 0, [], []⟩
def point (l : List UInt8) (q : Nat) : Nat := if q = l.length then 2 else if byteAt l q ≠ 46 then 3 else 0
abbrev Core := Nat × Nat × Nat × Nat × Nat
def core2 (l : List UInt8) (x y p : Nat) : Core := if (parse l p).2.2 ≠ 0 then ((parse l p).2.2, p, 0, 0, 0) else (0, p + (parse l p).2.1, x, y, (parse l p).1)
def after2 (l : List UInt8) (x y q : Nat) : Core := if point l q ≠ 0 then (point l q, q, 0, 0, 0) else core2 l x y (q + 1)
def core1 (l : List UInt8) (x p : Nat) : Core := if (parse l p).2.2 ≠ 0 then ((parse l p).2.2, p, 0, 0, 0) else after2 l x (parse l p).1 (p + (parse l p).2.1)
def after1 (l : List UInt8) (x q : Nat) : Core := if point l q ≠ 0 then (point l q, q, 0, 0, 0) else core1 l x (q + 1)
def core (l : List UInt8) (p : Nat) : Core := if (parse l p).2.2 ≠ 0 then ((parse l p).2.2, p, 0, 0, 0) else after1 l (parse l p).1 (p + (parse l p).2.1)
def rowAt (l : List UInt8) (p m : Nat) : Res :=
 if p = l.length ∨ byteAt l p ≠ (m : Int) then (0, p, []) else ((row l ((p + 1 : Nat) : Int) (m == 45)).1, p + 1 + (row l ((p + 1 : Nat) : Int) (m == 45)).2.1, (row l ((p + 1 : Nat) : Int) (m == 45)).2.2)
abbrev Out := Nat × Nat × Ver
def tail2 (l : List UInt8) (x y z : Nat) (pre : List (List UInt8)) (q : Nat) : Out :=
 if (rowAt l q 43).1 ≠ 0 then ((rowAt l q 43).1, (rowAt l q 43).2.1, noVer) else (0, (rowAt l q 43).2.1, ⟨x, y, z, pre, (rowAt l q 43).2.2⟩)
def tail1 (l : List UInt8) (x y z q : Nat) : Out :=
 if (rowAt l q 45).1 ≠ 0 then ((rowAt l q 45).1, (rowAt l q 45).2.1, noVer) else tail2 l x y z (rowAt l q 45).2.2 (rowAt l q 45).2.1
def inside (l : List UInt8) (p : Nat) : Out :=
 if (core l p).1 ≠ 0 then ((core l p).1, (core l p).2.1, noVer) else tail1 l (core l p).2.2.1 (core l p).2.2.2.1 (core l p).2.2.2.2 (core l p).2.1
def vparse (l : List UInt8) (p : Int) : Out := if p < 0 ∨ (l.length : Int) < p then (1, 0, noVer) else inside l p.toNat
def vread (l : List UInt8) : Out :=
 if (vparse l 0).1 ≠ 0 then ((vparse l 0).1, (vparse l 0).2.1, noVer) else if (vparse l 0).2.1 ≠ l.length then (13, (vparse l 0).2.1, noVer) else (0, 0, (vparse l 0).2.2)

theorem point_lt {l : List UInt8} {q : Nat} (hq : q ≤ l.length) (h : point l q = 0) : q < l.length := by
 unfold point at h
 split at h
 ·omega
 ·omega
theorem point_end {l : List UInt8} {q : Nat} (h : q = l.length) : point l q = 2 := by unfold point; rw [if_pos h]
theorem point_no {l : List UInt8} {q : Nat} (h : q ≠ l.length) (h2 : byteAt l q ≠ 46) : point l q = 3 := by unfold point; rw [if_neg h, if_pos h2]
theorem point_yes {l : List UInt8} {q : Nat} (h : q ≠ l.length) (h2 : byteAt l q = 46) : point l q = 0 := by unfold point; rw [if_neg h, if_neg (by simp [h2])]

theorem core2_end (l : List UInt8) (x y p : Nat) (hp : p ≤ l.length) : (core2 l x y p).2.1 ≤ l.length := by
 unfold core2; split
 ·exact hp
 ·exact parse_end l p hp
theorem after2_end (l : List UInt8) (x y q : Nat) (hq : q ≤ l.length) : (after2 l x y q).2.1 ≤ l.length := by
 unfold after2; split
 ·exact hq
 ·rename_i h; exact core2_end l x y _ (point_lt hq (by simpa using h))
theorem core1_end (l : List UInt8) (x p : Nat) (hp : p ≤ l.length) : (core1 l x p).2.1 ≤ l.length := by
 unfold core1; split
 ·exact hp
 ·exact after2_end l x _ _ (parse_end l p hp)
theorem after1_end (l : List UInt8) (x q : Nat) (hq : q ≤ l.length) : (after1 l x q).2.1 ≤ l.length := by
 unfold after1; split
 ·exact hq
 ·rename_i h; exact core1_end l x _ (point_lt hq (by simpa using h))
theorem core_end (l : List UInt8) (p : Nat) (hp : p ≤ l.length) : (core l p).2.1 ≤ l.length := by
 unfold core; split
 ·exact hp
 ·exact after1_end l _ _ (parse_end l p hp)

theorem rowAt_end (l : List UInt8) (p m : Nat) (hp : p ≤ l.length) : (rowAt l p m).2.1 ≤ l.length := by
 unfold rowAt; split
 ·exact hp
 ·rename_i h
  have h1 : p + 1 ≤ l.length := by
   have : ¬ p = l.length := fun h2 => h (.inl h2)
   omega
  exact row_end l (p + 1) _ h1
theorem rowAt_none {l : List UInt8} {p m : Nat} (h : p = l.length ∨ byteAt l p ≠ (m : Int)) : rowAt l p m = (0, p, []) := by unfold rowAt; rw [if_pos h]
theorem rowAt_some {l : List UInt8} {p m : Nat} (h1 : p ≠ l.length) (h2 : byteAt l p = (m : Int)) : rowAt l p m = ((row l ((p + 1 : Nat) : Int) (m == 45)).1, p + 1 + (row l ((p + 1 : Nat) : Int) (m == 45)).2.1, (row l ((p + 1 : Nat) : Int) (m == 45)).2.2) := by
 unfold rowAt; rw [if_neg]; rintro (h | h)
 ·exact h1 h
 ·exact h h2
theorem inside_end (l : List UInt8) (p : Nat) (hp : p ≤ l.length) : (inside l p).2.1 ≤ l.length := by
 unfold inside; split
 ·exact core_end l p hp
 ·have h1 := core_end l p hp
  unfold tail1; split
  ·exact rowAt_end _ _ _ h1
  ·have h2 := rowAt_end l _ 45 h1
   unfold tail2; split
   ·exact rowAt_end _ _ _ h2
   ·exact rowAt_end _ _ _ h2
theorem vparse_end (l : List UInt8) (p : Int) : (vparse l p).2.1 ≤ l.length := by
 unfold vparse; split
 ·simp
 ·rename_i h; exact inside_end _ _ (by omega)

/-! What stands ahead of a place. -/
theorem byteAt_place (a b : List UInt8) (p : Nat) : byteAt (a ++ b) (a.length + p) = byteAt b p := by
 unfold byteAt List.getD
 rw [List.getElem?_append_right (by omega), show a.length + p - a.length = p by omega]
theorem point_place (a b : List UInt8) (q : Nat) : point (a ++ b) (a.length + q) = point b q := by
 unfold point
 rw [byteAt_place, List.length_append]
 by_cases h : q = b.length
 ·rw [if_pos (by omega), if_pos h]
 ·rw [if_neg (by omega), if_neg h]
def shift (n : Nat) (k : Core) : Core := (k.1, n + k.2.1, k.2.2)
theorem core2_place (a b : List UInt8) (x y p : Nat) (hp : p ≤ b.length) : core2 (a ++ b) x y (a.length + p) = shift a.length (core2 b x y p) := by
 unfold core2
 rw [parse_place_at a b p hp]
 split
 ·rfl
 ·unfold shift; simp only [Nat.add_assoc]
theorem after2_place (a b : List UInt8) (x y q : Nat) (hq : q ≤ b.length) : after2 (a ++ b) x y (a.length + q) = shift a.length (after2 b x y q) := by
 unfold after2
 rw [point_place]
 split
 ·rfl
 ·rename_i h
  exact core2_place a b x y (q + 1) (point_lt hq (by simpa using h))
theorem core1_place (a b : List UInt8) (x p : Nat) (hp : p ≤ b.length) : core1 (a ++ b) x (a.length + p) = shift a.length (core1 b x p) := by
 unfold core1
 rw [parse_place_at a b p hp]
 split
 ·rfl
 ·rw [Nat.add_assoc]; exact after2_place a b x _ _ (parse_end b p hp)
theorem after1_place (a b : List UInt8) (x q : Nat) (hq : q ≤ b.length) : after1 (a ++ b) x (a.length + q) = shift a.length (after1 b x q) := by
 unfold after1
 rw [point_place]
 split
 ·rfl
 ·rename_i h
  exact core1_place a b x (q + 1) (point_lt hq (by simpa using h))
theorem core_place (a b : List UInt8) (p : Nat) (hp : p ≤ b.length) : core (a ++ b) (a.length + p) = shift a.length (core b p) := by
 unfold core
 rw [parse_place_at a b p hp]
 split
 ·rfl
 ·rw [Nat.add_assoc]; exact after1_place a b _ _ (parse_end b p hp)
theorem rowAt_place (a b : List UInt8) (p m : Nat) (hp : p ≤ b.length) : rowAt (a ++ b) (a.length + p) m = ((rowAt b p m).1, a.length + (rowAt b p m).2.1, (rowAt b p m).2.2) := by
 unfold rowAt
 rw [byteAt_place, List.length_append]
 by_cases h : p = b.length ∨ byteAt b p ≠ (m : Int)
 ·rw [if_pos (by rcases h with h | h; (· left; omega); (· right; exact h)), if_pos h]
 ·have h1 : p + 1 ≤ b.length := by
   have : ¬ p = b.length := fun h2 => h (.inl h2)
   omega
  rw [if_neg (by rintro (h2 | h2); (· exact h (.inl (by omega))); (· exact h (.inr h2))), if_neg h, Nat.add_assoc a.length p 1, row_place a b (p + 1) _ h1]
  simp only [Nat.add_assoc]
def move (n : Nat) (r : Out) : Out := (r.1, n + r.2.1, r.2.2)
theorem inside_place (a b : List UInt8) (p : Nat) (hp : p ≤ b.length) : inside (a ++ b) (a.length + p) = move a.length (inside b p) := by
 unfold inside
 rw [core_place a b p hp]
 have h1 := core_end b p hp
 unfold shift
 simp only
 split
 ·rfl
 ·unfold tail1
  rw [rowAt_place a b _ 45 h1]
  have h2 := rowAt_end b _ 45 h1
  simp only
  split
  ·rfl
  ·unfold tail2
   rw [rowAt_place a b _ 43 h2]
   simp only
   split <;> rfl
theorem vparse_place (a b : List UInt8) : vparse (a ++ b) a.length = move a.length (vparse b 0) := by
 unfold vparse
 rw [if_neg (by simp only [List.length_append]; omega), if_neg (by omega), Int.toNat_natCast]
 exact inside_place a b 0 (Nat.zero_le _)
end Go.Proofs.YtgfbflnhjpbceaaGreatDoor.Semver
namespace Go.Proofs.YtgfbflnhjpbceaaGreatDoor.Ident
open Go.RowKit Num

def goodFrom (pre : Bool) : List (List UInt8) → Nat → Bool
 | [], _ => true
 | x :: r, i => fault x i pre == 0 && lead x == x.length && goodFrom pre r (i + 1)
theorem goodFrom_yes {pre : Bool} {x : List UInt8} {r : List (List UInt8)} {i : Nat} (h1 : fault x i pre = 0) (h2 : lead x = x.length) : goodFrom pre (x :: r) i = goodFrom pre r (i + 1) := by
 rw [goodFrom]; simp [h1, h2]
theorem goodFrom_no {pre : Bool} {x : List UInt8} {r : List (List UInt8)} {i : Nat} (h : fault x i pre ≠ 0 ∨ lead x ≠ x.length) : goodFrom pre (x :: r) i = false := by
 rw [goodFrom]
 rcases h with h | h
 ·rw [beq_eq_false_iff_ne.2 h]; rfl
 ·rw [beq_eq_false_iff_ne.2 h]; simp
theorem goodFrom_step {pre : Bool} {xs : List (List UInt8)} {k : Nat} (hk : k < xs.length) (h1 : fault (xs.getD k []) k pre = 0) (h2 : lead (xs.getD k []) = (xs.getD k []).length) : goodFrom pre (xs.drop k) k = goodFrom pre (xs.drop (k + 1)) (k + 1) := by
 have e : xs.drop k = xs.getD k [] :: xs.drop (k + 1) := by
  rw [List.drop_eq_getElem_cons hk]; simp [List.getD, List.getElem?_eq_getElem hk]
 rw [e]; exact goodFrom_yes h1 h2
theorem goodFrom_stop {pre : Bool} {xs : List (List UInt8)} {k : Nat} (hk : k < xs.length) (h : fault (xs.getD k []) k pre ≠ 0 ∨ lead (xs.getD k []) ≠ (xs.getD k []).length) : goodFrom pre (xs.drop k) k = false := by
 have e : xs.drop k = xs.getD k [] :: xs.drop (k + 1) := by
  rw [List.drop_eq_getElem_cons hk]; simp [List.getD, List.getElem?_eq_getElem hk]
 rw [e]; exact goodFrom_no h
end Go.Proofs.YtgfbflnhjpbceaaGreatDoor.Ident
namespace Go.Proofs.YtgfbflnhjpbceaaGreatDoor.Ident
open Go.RowKit Num

def mk (l : List UInt8) : ByteArray := ⟨l.toArray⟩
theorem mk_list (l : List UInt8) : (mk l).data.toList = l := rfl
theorem mk_size (l : List UInt8) : (mk l).size = l.length := rfl

def strs (xs : List (List UInt8)) : List Value := xs.map fun l => Value.string (mk l)
theorem strs_length (xs : List (List UInt8)) : (strs xs).length = xs.length := by simp [strs]
theorem strs_append (xs ys : List (List UInt8)) : strs (xs ++ ys) = strs xs ++ strs ys := by simp [strs]
theorem strs_one (xs : List (List UInt8)) : ∀ u ∈ strs xs, u.oneCell' = true := by
 intro u hu
 simp only [strs, List.mem_map] at hu
 obtain ⟨b, _, rfl⟩ := hu
 rfl
theorem strs_at (xs : List (List UInt8)) (j : Nat) (hj : j < xs.length) : (strs xs)[j]? = some (.string (mk (xs.getD j []))) := by
 simp [strs, List.getElem?_eq_getElem hj]

def SRow (w : World) (A : Option Addr) (n : Nat) (xs : List (List UInt8)) : Prop :=
 xs.length = n ∧ (0 < n → ∃ b o, A = some ⟨b, o, none⟩ ∧ b < w.heap.size ∧ ∀ j, j < n → w.cell? ⟨b, o + j, none⟩ = some (.string (mk (xs.getD j []))))

theorem SRow.none_ (w : World) (A : Option Addr) : SRow w A 0 [] := ⟨rfl, fun h => by omega⟩
theorem SRow.kept {w w' : World} {A : Option Addr} {n : Nat} {xs : List (List UInt8)} (h : SRow w A n xs) (hb : Below w.heap.size w w') : SRow w' A n xs := by
 refine ⟨h.1, fun h0 => ?_⟩
 obtain ⟨b, o, e, hlt, hc⟩ := h.2 h0
 exact ⟨b, o, e, Nat.lt_of_lt_of_le hlt hb.size, fun j hj => (hb.cell (p := ⟨b, o + j, none⟩) hlt).trans (hc j hj)⟩
theorem SRow.nil {w : World} {n : Nat} {xs : List (List UInt8)} (h : SRow w none n xs) : n = 0 ∧ xs = [] := by
 rcases Nat.eq_zero_or_pos n with h0 | h0
 ·exact ⟨h0, List.eq_nil_of_length_eq_zero (by rw [h.1]; exact h0)⟩
 ·obtain ⟨b, o, e, _⟩ := h.2 h0
  cases e
theorem SRow.news {w : World} {ad : Addr} {n : Nat} {xs : List (List UInt8)} (h : SRow w (some ad) n xs) : ∀ j u, (strs xs)[j]? = some u → w.cell? (ad.add j) = some u := by
 intro j u hu
 have hj : j < xs.length := by
  have := (List.getElem?_eq_some_iff.1 hu).1
  rwa [strs_length] at this
 obtain ⟨b, o, e, _, hc⟩ := h.2 (by have := h.1; omega)
 injection e with e
 subst e
 rw [strs_at xs j hj] at hu
 injection hu with hu
 rw [add_none, hc j (by rw [← h.1]; exact hj), hu]
theorem SRow.of_own {w : World} {base : Nat} {v : Value} {n : Nat} {xs : List (List UInt8)} (h : w.ownsRow base 9 1 v n (strs xs)) :
  ∃ A c, v = .slice A n c ∧ n ≤ c ∧ SRow w A n xs := by
 have hl : xs.length = n := by have := h.1; rw [strs_length] at this; omega
 have hcs := fun g => h.cells (g := g)
 rcases h.2 with ⟨rfl, rfl⟩ | ⟨g, cap, cur, rfl, _, hg, hnc, hcm, _, _⟩
 ·exact ⟨none, 0, rfl, Nat.le_refl _, hl, fun h0 => by omega⟩
 ·refine ⟨_, cap, rfl, hnc, hl, fun h0 => ⟨g, 0, rfl, (Array.getElem?_eq_some_iff.1 hg).1, fun j hj => ?_⟩⟩
  have := hcs g rfl j _ (strs_at xs j (by omega))
  rwa [add_none] at this

theorem own_below {w w' : World} {base : Nat} {e : TypeId} {size : Nat} {v : Value} {n : Nat} {xs : List Value} (h : w.ownsRow base e size v n xs) (hb : Below w.heap.size w w') : w'.ownsRow base e size v n xs :=
 h.kept (row := none) ⟨hb.os, hb.tape, hb.output, hb.size, fun i hi _ => hb.block i hi⟩ (by cases v.ownBlock <;> simp)

theorem strInfo : (Tryz.prog.info? 9).map (fun i => (i.zero, i.size, i.bytes)) = some (some (.string ⟨#[]⟩), 1, 16) := by kernel_rfl

theorem run_append_strs (w : World) (ty : TypeId) (base : Nat) (v : Value) (n : Nat) (xs : List (List UInt8)) (hown : w.ownsRow base 9 1 v n (strs xs))
  (A : Option Addr) (m c : Nat) (ys : List (List UInt8)) (hr : SRow w A m ys) (hnil : A = none → c = 0) (hb : (n + m) * 16 ≤ 140737488355328) (hbase : base ≤ w.heap.size) :
  ∃ v' w', (Builtin.append_ #[23, 23] ty #[v, .slice A m c]).run Tryz.prog w = .ok v' w' ∧ w'.ownsRow base 9 1 v' (n + m) (strs (xs ++ ys)) ∧ w.grownBy w' v.ownBlock := by
 obtain ⟨i, hi, hz, hs, hby⟩ := info_parts strInfo
 cases A with
 | none =>
  obtain ⟨rfl, rfl⟩ := hr.nil
  obtain rfl := hnil rfl
  exact ⟨v, w, run_append_owned_none (P := Tryz.prog) (w := w) base 23 ty 9 i 1 Tryz.underlying23 hi v n _ hown, by simpa using hown, World.grownBy.refl w _⟩
 | some ad =>
  obtain ⟨v', w', h1, h2, h3, _⟩ := run_append_own (P := Tryz.prog) w base 23 ty 9 i (.string ⟨#[]⟩) 1 16 Tryz.underlying23 hi hz hs hby rfl (by omega) v n _ hown ad m c (strs ys)
   (by rw [strs_length, hr.1]; omega) hr.news (strs_one ys) (by unfold maxLen; omega) hb hbase
  exact ⟨v', w', h1, by rw [strs_append]; exact h2, h3⟩

theorem wpList_append_strs (w : World) {ops : Array Oper} {rest : List Oper} {o : Oper} {a : Act} {Q : Exit → Act → World → Prop} (hgd : o.guard = none) (s x : Operand)
  (ho : o.op = .call { callee := .builtin .append, args := #[s, x], argTypes := #[23, 23] })
  (base : Nat) (v : Value) (n : Nat) (xs : List (List UInt8)) (hs : a.eval s = v) (hown : w.ownsRow base 9 1 v n (strs xs))
  (A : Option Addr) (m c : Nat) (ys : List (List UInt8)) (hx : a.eval x = .slice A m c) (hr : SRow w A m ys) (hnil : A = none → c = 0) (hb : (n + m) * 16 ≤ 140737488355328) (hbase : base ≤ w.heap.size)
  (h : ∀ v' w', w'.ownsRow base 9 1 v' (n + m) (strs (xs ++ ys)) → Below base w w' → wpList Tryz.prog ops Q rest (a.put o.dst v') w') : wpList Tryz.prog ops Q (o :: rest) a w := by
 refine wpList_plain hgd fun K hK => ?_
 obtain ⟨v', w', hrun, h2, h3⟩ := run_append_strs w o.type base v n xs hown A m c ys hr hnil hb hbase
 unfold Oper.wp execOp
 simp only [ho, resolve, invoke, builtin, Sem.run_bind, Sem.run_pure, Result.andThen_ok, List.map_toArray, List.map_cons, List.map_nil, hs, hx, hrun]
 exact hK _ _ (h v' w' h2 ((Below.refl base w).grown h3 hbase fun k hk => (hown.lt k hk).1))

theorem SRow.one (w : World) (l : List UInt8) : SRow (w.alloc (.cells #[.string (mk l)] 9)) (some ⟨w.heap.size, 0, none⟩) 1 [l] := by
 refine ⟨rfl, fun _ => ⟨w.heap.size, 0, rfl, by simp, fun j hj => ?_⟩⟩
 obtain rfl : j = 0 := by omega
 have hh : (w.alloc (.cells #[.string (mk l)] 9)).heap[w.heap.size]? = some (.cells #[.string (mk l)] 9) := by
  show (w.heap.push _)[w.heap.size]? = _
  simp
 exact cell_of_row _ _ _ #[.string (mk l)] _ _ hh

theorem run_text {w : World} {A : Option Addr} {n : Nat} {l : List UInt8} (h : Row w A n l) (c : Nat) :
  (convert 68 9 (.slice A n c)).run Tryz.prog w = .ok (.string (mk l)) w := by
 cases A with
 | none =>
  obtain ⟨rfl, rfl⟩ := h.nil
  exact Lib.run_convert_nil_bytes (P := Tryz.prog) w 68 9 5 c Tryz.underlying68 Tryz.underlying5 Tryz.underlying9
 | some ad =>
  have e := run_convert_bytes_back (P := Tryz.prog) w 68 9 5 ad c l Tryz.underlying68 Tryz.underlying5 Tryz.underlying9 (fun j hj => by
   have := h.news j _ (cells_at l j hj)
   rw [this]; unfold byteAt; simp [List.getElem?_eq_getElem hj])
  rwa [h.1] at e

theorem Row.from_ {w : World} {A A' : Option Addr} {n : Nat} {l : List UInt8} (h : Row w A n l) (k c : Nat) (hk : k ≤ n) (hc : n ≤ c) (hA : (if c = k then A else A.map (fun x => x.add k)) = A') : Row w A' (n - k) (l.drop k) := by
 have := h.piece (A' := A') k (n - k) (by omega) (fun h0 b o e => by rw [← hA, if_neg (by omega)]; exact map_add k A b o e)
 rwa [List.take_of_length_le (by rw [List.length_drop, h.1]; exact Nat.le_refl _)] at this
theorem Row.part_ {w : World} {A A' : Option Addr} {n : Nat} {l : List UInt8} (h : Row w A n l) (k m c : Nat) (hk : k + m ≤ n) (hc : n ≤ c) (hA : (if c = k then A else A.map (fun x => x.add k)) = A') : Row w A' m ((l.drop k).take m) :=
 h.piece (A' := A') k m hk (fun h0 b o e => by rw [← hA, if_neg (by omega)]; exact map_add k A b o e)

def sameB (xs ys : List (List UInt8)) : Bool := xs == ys
theorem sameB_iff (xs ys : List (List UInt8)) : sameB xs ys = true ↔ xs = ys := by simp [sameB]
theorem sameB_no {xs ys : List (List UInt8)} (h : xs ≠ ys) : sameB xs ys = false := by simp [sameB, h]

theorem SRow.set {w : World} {A : Option Addr} {n : Nat} {xs : List (List UInt8)} (h : SRow w A n xs) {p : Addr} {u : Value} (hu : w.cell? p = some u) (hs : ∀ s, u ≠ .string s) (v : Value) : SRow (w.setCell p v) A n xs := by
 refine ⟨h.1, fun h0 => ?_⟩
 obtain ⟨b, o, e, hlt, hc⟩ := h.2 h0
 refine ⟨b, o, e, by simpa using hlt, fun j hj => ?_⟩
 rw [World.cell?_setCell_other]
 ·exact hc j hj
 ·intro he
  rw [he, hc j hj] at hu
  injection hu with hu
  exact hs _ hu.symm
theorem cell_beside (w : World) (b i j : Nat) (v : Value) (h : i ≠ j) : (w.setCell ⟨b, i, none⟩ v).cell? ⟨b, j, none⟩ = w.cell? ⟨b, j, none⟩ :=
 World.cell?_setCell_other _ _ _ _ (by intro e; injection e with _ e; exact h e)
theorem SRow.set5 {w : World} {A : Option Addr} {n : Nat} {xs : List (List UInt8)} (h : SRow w A n xs) {b : Nat} {u0 u1 u2 u3 u4 : Value}
  (h0 : w.cell? ⟨b, 0, none⟩ = some u0) (h1 : w.cell? ⟨b, 1, none⟩ = some u1) (h2 : w.cell? ⟨b, 2, none⟩ = some u2) (h3 : w.cell? ⟨b, 3, none⟩ = some u3) (h4 : w.cell? ⟨b, 4, none⟩ = some u4)
  (s0 : ∀ s, u0 ≠ .string s) (s1 : ∀ s, u1 ≠ .string s) (s2 : ∀ s, u2 ≠ .string s) (s3 : ∀ s, u3 ≠ .string s) (s4 : ∀ s, u4 ≠ .string s) (v0 v1 v2 v3 v4 : Value) :
  SRow (((((w.setCell ⟨b, 0, none⟩ v0).setCell ⟨b, 1, none⟩ v1).setCell ⟨b, 2, none⟩ v2).setCell ⟨b, 3, none⟩ v3).setCell ⟨b, 4, none⟩ v4) A n xs := by
 refine SRow.set (SRow.set (SRow.set (SRow.set (SRow.set h h0 s0 v0) (u := u1) ?_ s1 v1) (u := u2) ?_ s2 v2) (u := u3) ?_ s3 v3) (u := u4) ?_ s4 v4
 ·exact (cell_beside _ _ _ _ _ (by omega)).trans h1
 ·exact (cell_beside _ _ _ _ _ (by omega)).trans ((cell_beside _ _ _ _ _ (by omega)).trans h2)
 ·exact (cell_beside _ _ _ _ _ (by omega)).trans ((cell_beside _ _ _ _ _ (by omega)).trans ((cell_beside _ _ _ _ _ (by omega)).trans h3))
 ·exact (cell_beside _ _ _ _ _ (by omega)).trans ((cell_beside _ _ _ _ _ (by omega)).trans ((cell_beside _ _ _ _ _ (by omega)).trans ((cell_beside _ _ _ _ _ (by omega)).trans h4)))

def At5 (W : World) (b : Nat) (u0 u1 u2 u3 u4 : Value) : Prop := b < W.heap.size ∧ (∀ o, W.frozen? ⟨b, o, none⟩ = false) ∧ W.cell? ⟨b, 0, none⟩ = some u0 ∧ W.cell? ⟨b, 1, none⟩ = some u1 ∧ W.cell? ⟨b, 2, none⟩ = some u2 ∧ W.cell? ⟨b, 3, none⟩ = some u3 ∧ W.cell? ⟨b, 4, none⟩ = some u4
theorem At5.new (w : World) (t : TypeId) (u0 u1 u2 u3 u4 : Value) : At5 (w.alloc (.cells #[u0, u1, u2, u3, u4] t)) w.heap.size u0 u1 u2 u3 u4 := by
 unfold At5
 refine ⟨by simp, fun o => by simp [go_sem], ?_, ?_, ?_, ?_, ?_⟩ <;> simp [go_sem]
theorem At5.kept {W W' : World} {b B : Nat} {u0 u1 u2 u3 u4 : Value} (h : At5 W b u0 u1 u2 u3 u4) (hb : Below B W W') (hB : b < B) : At5 W' b u0 u1 u2 u3 u4 := by
 obtain ⟨h1, h2, c0, c1, c2, c3, c4⟩ := h
 exact ⟨Nat.lt_of_lt_of_le h1 hb.size, fun o => (hb.frozen (p := ⟨b, o, none⟩) hB).trans (h2 o), (hb.cell (p := ⟨b, 0, none⟩) hB).trans c0, (hb.cell (p := ⟨b, 1, none⟩) hB).trans c1, (hb.cell (p := ⟨b, 2, none⟩) hB).trans c2, (hb.cell (p := ⟨b, 3, none⟩) hB).trans c3, (hb.cell (p := ⟨b, 4, none⟩) hB).trans c4⟩

def At3 (W : World) (b : Nat) (u0 u1 u2 : Value) : Prop := b < W.heap.size ∧ (∀ o, W.frozen? ⟨b, o, none⟩ = false) ∧ W.cell? ⟨b, 0, none⟩ = some u0 ∧ W.cell? ⟨b, 1, none⟩ = some u1 ∧ W.cell? ⟨b, 2, none⟩ = some u2
theorem At3.new (w : World) (t : TypeId) (u0 u1 u2 : Value) : At3 (w.alloc (.cells #[u0, u1, u2] t)) w.heap.size u0 u1 u2 := by
 unfold At3
 refine ⟨by simp, fun o => by simp [go_sem], ?_, ?_, ?_⟩ <;> simp [go_sem]
theorem At3.kept {W W' : World} {b B : Nat} {u0 u1 u2 : Value} (h : At3 W b u0 u1 u2) (hb : Below B W W') (hB : b < B) : At3 W' b u0 u1 u2 := by
 obtain ⟨h1, h2, c0, c1, c2⟩ := h
 exact ⟨Nat.lt_of_lt_of_le h1 hb.size, fun o => (hb.frozen (p := ⟨b, o, none⟩) hB).trans (h2 o), (hb.cell (p := ⟨b, 0, none⟩) hB).trans c0, (hb.cell (p := ⟨b, 1, none⟩) hB).trans c1, (hb.cell (p := ⟨b, 2, none⟩) hB).trans c2⟩
def set5 (w : World) (b : Nat) (v0 v1 v2 v3 v4 : Value) : World := ((((w.setCell ⟨b, 0, none⟩ v0).setCell ⟨b, 1, none⟩ v1).setCell ⟨b, 2, none⟩ v2).setCell ⟨b, 3, none⟩ v3).setCell ⟨b, 4, none⟩ v4
theorem At5.set5 {W : World} {b : Nat} {u0 u1 u2 u3 u4 : Value} (h : At5 W b u0 u1 u2 u3 u4) (v0 v1 v2 v3 v4 : Value) : At5 (set5 W b v0 v1 v2 v3 v4) b v0 v1 v2 v3 v4 := by
 obtain ⟨h1, h2, c0, c1, c2, c3, c4⟩ := h
 unfold Ident.set5
 refine ⟨by simpa using h1, fun o => by simp [go_sem, h2], ?_, ?_, ?_, ?_, ?_⟩ <;> simp [go_sem, c0, c1, c2, c3, c4]
end Go.Proofs.YtgfbflnhjpbceaaGreatDoor.Ident
namespace Go.Proofs.YtgfbflnhjpbceaaGreatDoor.Ident
open Go.RowKit Num

def joined (xs : List (List UInt8)) : List UInt8 := Lib.join xs [46]
theorem joinTail_snoc (r : List (List UInt8)) (x : List UInt8) : Lib.joinTail [46] (r ++ [x]) = Lib.joinTail [46] r ++ ([46] ++ x) := by
 simp [Lib.joinTail]
theorem joined_nil : joined [] = [] := rfl
theorem joined_one (x : List UInt8) : joined [x] = x := Lib.join_one x [46]
theorem joined_cons (x y : List UInt8) (r : List (List UInt8)) : joined (x :: y :: r) = x ++ 46 :: joined (y :: r) := by
 unfold joined
 rw [Lib.join_cons, Lib.join_cons]; simp [Lib.joinTail]
theorem joined_snoc (xs : List (List UInt8)) (x : List UInt8) (h : xs ≠ []) : joined (xs ++ [x]) = joined xs ++ [46] ++ x := by
 cases xs with
 | nil => exact absurd rfl h
 | cons a r =>
  unfold joined
  rw [List.cons_append, Lib.join_cons, Lib.join_cons, joinTail_snoc]; simp
theorem joined_le : ∀ (xs : List (List UInt8)), (∀ x ∈ xs, x.length ≤ 300) → (joined xs).length ≤ 301 * xs.length
 | [], _ => by simp [joined_nil]
 | [x], h => by rw [joined_one]; have := h x (by simp); simp; omega
 | x :: y :: r, h => by
  rw [joined_cons]
  have h1 := h x (by simp)
  have h2 := joined_le (y :: r) (fun z hz => h z (by simp [hz]))
  simp only [List.length_append, List.length_cons] at h2 ⊢
  omega
theorem go_ids {pre : Bool} (x t w : List UInt8) (acc : List (List UInt8)) (n : Nat) (h : ∀ b ∈ x, isId b = true) : go pre (x ++ t) w acc n = go pre t (w ++ x) acc (n + x.length) := by
 induction x generalizing w n with
 | nil => simp
 | cons b x ih =>
  rw [List.cons_append, go_id (h b (by simp)), ih _ _ (fun c hc => h c (by simp [hc])), List.append_assoc, List.singleton_append, List.length_cons]
  congr 1; omega
theorem mk_cat (t x : List UInt8) : mk t ++ mk x = mk (t ++ x) := by
 have : (mk t ++ mk x).data.toList = t ++ x := by
  rw [ByteArray.data_append, Array.toList_append]; rfl
 rw [← this]; rfl
end Go.Proofs.YtgfbflnhjpbceaaGreatDoor.Ident
namespace Go.Proofs.YtgfbflnhjpbceaaGreatDoor.Semver
open Go.RowKit Num Ident

def heldB (x y z : Nat) : Bool := decide (x ≤ maxField ∧ y ≤ maxField ∧ z ≤ maxField)
theorem heldB_yes {x y z : Nat} (hx : x ≤ maxField) (hy : y ≤ maxField) (hz : z ≤ maxField) : heldB x y z = true := decide_eq_true ⟨hx, hy, hz⟩
theorem heldB_no {x y z : Nat} (h : ¬ (x ≤ maxField ∧ y ≤ maxField ∧ z ≤ maxField)) : heldB x y z = false := decide_eq_false h
def goodV (v : Ver) : Bool := heldB v.a v.b v.c && (goodFrom true v.pre 0 && goodFrom false v.build 0)
theorem field_le {x : Nat} (h : (x : Int) ≤ 9223372036854775807) : x ≤ maxField := by unfold maxField; omega
theorem field_no {x : Nat} (h : ¬ (x : Int) ≤ 9223372036854775807) : ¬ x ≤ maxField := by unfold maxField; omega
def sameV (u v : Ver) : Bool := decide (u.a = v.a ∧ u.b = v.b ∧ u.c = v.c) && (sameB u.pre v.pre && sameB u.build v.build)
theorem sameV_self (v : Ver) : sameV v v = true := by unfold sameV; rw [(sameB_iff _ _).2 rfl, (sameB_iff _ _).2 rfl]; simp
def rowText (m : UInt8) (xs : List (List UInt8)) : List UInt8 := if xs.length = 0 then [] else m :: joined xs
def vtext (v : Ver) : List UInt8 := Lib.decDigits v.a ++ [46] ++ Lib.decDigits v.b ++ [46] ++ Lib.decDigits v.c ++ rowText 45 v.pre ++ rowText 43 v.build
theorem rowText_none {m : UInt8} {xs : List (List UInt8)} (h : xs.length = 0) : rowText m xs = [] := by unfold rowText; rw [if_pos h]
theorem rowText_some {m : UInt8} {xs : List (List UInt8)} (h : xs.length ≠ 0) : rowText m xs = [m] ++ joined xs := by unfold rowText; rw [if_neg h]; rfl
theorem short_joined {xs : List (List UInt8)} (h : shortB xs = true) : (joined xs).length ≤ 12040 := by
 rw [shortB_iff] at h
 have := joined_le xs h.2
 omega
theorem rowText_le {m : UInt8} {xs : List (List UInt8)} (h : shortB xs = true) : (rowText m xs).length ≤ 12041 := by
 unfold rowText
 split
 ·simp
 ·have := short_joined h
  simp; exact this
theorem dec_le (u : Nat) (h : u < 18446744073709551616) : (Lib.decDigits u).length ≤ 20 := by rw [Lib.decDigits_length]; exact Lib.nDigits_le20 u h
theorem held_not1 {x y z : Nat} (h : ¬ (x : Int) < 9223372036854775808) : heldB x y z = false := heldB_no fun hh => h (by have := hh.1; unfold maxField at this; omega)
theorem held_not2 {x y z : Nat} (h : ¬ (y : Int) < 9223372036854775808) : heldB x y z = false := heldB_no fun hh => h (by have := hh.2.1; unfold maxField at this; omega)
theorem held_not3 {x y z : Nat} (h : ¬ (z : Int) < 9223372036854775808) : heldB x y z = false := heldB_no fun hh => h (by have := hh.2.2; unfold maxField at this; omega)
theorem held_all {x y z : Nat} (h1 : (x : Int) < 9223372036854775808) (h2 : (y : Int) < 9223372036854775808) (h3 : (z : Int) < 9223372036854775808) : heldB x y z = true :=
 heldB_yes (by unfold maxField; omega) (by unfold maxField; omega) (by unfold maxField; omega)
end Go.Proofs.YtgfbflnhjpbceaaGreatDoor.Semver
namespace Go.Proofs.YtgfbflnhjpbceaaGreatDoor.Range
open Num Ident Semver

inductive Rng where
 | mk (kind : Int) (v : Ver) (l : List Rng)
def Rng.kind : Rng → Int
 | .mk k _ _ => k
def Rng.ver : Rng → Ver
 | .mk _ v _ => v
def Rng.subs : Rng → List Rng
 | .mk _ _ l => l
def noRng : Rng := .mk 0 noVer []
instance : Inhabited Rng := ⟨noRng⟩

def blankB (b : UInt8) : Bool := b == 32 || b == 9
def blanks : List UInt8 → List UInt8
 | [] => []
 | b :: s => if blankB b then blanks s else b :: s
def stands (t s : List UInt8) : Bool := t.isPrefixOf s
def oneOf (some s : List UInt8) : Bool := match s with
 | [] => false
 | b :: _ => decide (b ∈ some)
def lackN (s : List UInt8) : Nat := if s = [] then 5 else 3
def digits : List UInt8 := [48, 49, 50, 51, 52, 53, 54, 55, 56, 57]
def starts : List UInt8 := [40, 33, 42, 62, 60, 61, 94, 126, 48, 49, 50, 51, 52, 53, 54, 55, 56, 57]
def ops : List (List UInt8) := [[62, 61], [62], [60, 61], [60], [61], [33, 61], [94], [126]]
def opFrom (s : List UInt8) : List (List UInt8) → Int → Int × List UInt8
 | [], _ => (5, [])
 | t :: r, k => if stands t s then (k, t) else opFrom s r (k + 1)
def opOf (s : List UInt8) : Int × List UInt8 := opFrom s ops 1
abbrev Out := Nat × List UInt8 × Rng
def verAt (kind : Int) (s : List UInt8) : Out :=
 if oneOf digits s = true then
  if (vparse s 0).1 ≠ 0 then ((vparse s 0).1, s.drop (vparse s 0).2.1, noRng) else (0, blanks (s.drop (vparse s 0).2.1), .mk kind (vparse s 0).2.2 [])
 else (lackN s, s, noRng)
def whole (kind : Int) (acc : List Rng) (r : Rng) : Rng := if acc = [] then r else .mk kind noVer (acc ++ [r])
def sev (pf : List UInt8 → Out) (ff : List UInt8 → Option (List UInt8)) (kind : Int) : Nat → List Rng → List UInt8 → Out
 | 0, _, s => (99, s, noRng)
 | n + 1, acc, s => if (pf s).1 ≠ 0 then ((pf s).1, (pf s).2.1, noRng) else
  match ff (pf s).2.1 with
  | some s' => sev pf ff kind n (acc ++ [(pf s).2.2]) s'
  | none => (0, (pf s).2.1, whole kind acc (pf s).2.2)
def furE (s : List UInt8) : Option (List UInt8) := if stands [124, 124] s = true then some (blanks (s.drop 2)) else none
def furO (s : List UInt8) : Option (List UInt8) := if stands [44] s = true then some (blanks (s.drop 1)) else if oneOf starts s = true then some s else none
def everyF (pf : List UInt8 → Out) (s : List UInt8) : Out := sev pf furO 9 (s.length + 1) [] s
def exprF (pf : List UInt8 → Out) (s : List UInt8) : Out := sev (everyF pf) furE 10 (s.length + 1) [] s
def shutF (t : Out) : Out := if t.1 ≠ 0 then (t.1, t.2.1, noRng) else if stands [41] t.2.1 = true then (0, blanks (t.2.1.drop 1), t.2.2) else (lackN t.2.1, t.2.1, noRng)
def notF (t : Out) : Out := if t.1 ≠ 0 then (t.1, t.2.1, noRng) else (0, t.2.1, .mk 11 noVer [t.2.2])
def oneF (sub : Option (List UInt8 → Out)) (s : List UInt8) : Out :=
 if stands [42] s = true then (0, blanks (s.drop 1), noRng)
 else if stands [40] s = true then (match sub with
  | none => (8, s, noRng)
  | some f => shutF (exprF f (blanks (s.drop 1))))
 else if (opOf s).2 = [] ∧ stands [33] s = true then (match sub with
  | none => (8, s, noRng)
  | some f => notF (f (blanks (s.drop 1))))
 else verAt (opOf s).1 (blanks (s.drop (opOf s).2.length))
def pone : Nat → List UInt8 → Out
 | 0 => oneF none
 | k + 1 => oneF (some (pone k))
abbrev POut := Nat × Nat × Rng
def pparse (l : List UInt8) (p : Int) : POut :=
 if p < 0 ∨ (l.length : Int) < p then (1, 0, noRng) else
  ((exprF (pone 64) (blanks (l.drop p.toNat))).1, l.length - (exprF (pone 64) (blanks (l.drop p.toNat))).2.1.length, (exprF (pone 64) (blanks (l.drop p.toNat))).2.2)
def pread (l : List UInt8) : POut :=
 if (pparse l 0).1 ≠ 0 then ((pparse l 0).1, (pparse l 0).2.1, noRng) else if (pparse l 0).2.1 ≠ l.length then (13, (pparse l 0).2.1, noRng) else (0, 0, (pparse l 0).2.2)

def bracketed (outer kind : Int) : Bool := decide (kind = 10 ∨ kind = 9 ∧ outer ≠ 10)
def ofVersion (kind : Int) : Bool := decide (1 ≤ kind ∧ kind ≤ 8)
def opens (outer kind : Int) : Nat := (if outer = 11 then 1 else 0) + (if bracketed outer kind = true then 1 else 0)
def fits (kind : Int) (v : Ver) (n : Nat) : Bool :=
 if ofVersion kind = true then goodV v && decide (n = 0)
 else if sameV v noVer = false then false
 else if kind = 0 then decide (n = 0) else if kind = 9 ∨ kind = 10 then decide (2 ≤ n) else if kind = 11 then decide (n = 1) else false
mutual
def goodR : Rng → Nat → Bool
 | .mk kind v l, deep => decide (deep ≤ 64) && fits kind v l.length && goodL kind l deep
def goodL (outer : Int) : List Rng → Nat → Bool
 | [], _ => true
 | r :: rs, deep => goodR r (deep + opens outer r.kind) && goodL outer rs deep
end
def markR (kind : Int) (v : Ver) : List UInt8 :=
 if kind = 0 then [42] else if kind = 9 ∨ kind = 10 then [] else if kind = 11 then [33] else if ofVersion kind = true then ops.getD (kind - 1).toNat [] ++ vtext v else vtext v
def aheadR (outer kind : Int) (told : Nat) : List UInt8 :=
 if outer = 11 ∧ kind = 5 then [32] else if told = 0 then [] else if outer = 10 then [32, 124, 124, 32] else [44, 32]
def openR (outer kind : Int) : List UInt8 := if bracketed outer kind = true then [40] else []
def shutR (outer kind : Int) : List UInt8 := if bracketed outer kind = true then [41] else []
def most (kind : Int) (n : Nat) : Nat := if kind = 9 ∨ kind = 10 then n else if kind = 11 then min 1 n else 0
mutual
def textR : Rng → List UInt8
 | .mk kind v l => markR kind v ++ textL kind (most kind l.length) l 0
def textL (outer : Int) (m : Nat) : List Rng → Nat → List UInt8
 | [], _ => []
 | r :: rs, i => if i < m then aheadR outer r.kind i ++ (openR outer r.kind ++ textR r ++ shutR outer r.kind) ++ textL outer m rs (i + 1) else []
end
theorem goodR_eq (kind : Int) (v : Ver) (l : List Rng) (deep : Nat) : goodR (.mk kind v l) deep = (decide (deep ≤ 64) && fits kind v l.length && goodL kind l deep) := rfl
theorem goodL_cons (outer : Int) (r : Rng) (rs : List Rng) (deep : Nat) : goodL outer (r :: rs) deep = (goodR r (deep + opens outer r.kind) && goodL outer rs deep) := rfl
theorem textR_eq (kind : Int) (v : Ver) (l : List Rng) : textR (.mk kind v l) = markR kind v ++ textL kind (most kind l.length) l 0 := rfl
theorem textL_cons (outer : Int) (m : Nat) (r : Rng) (rs : List Rng) (i : Nat) : textL outer m (r :: rs) i = if i < m then aheadR outer r.kind i ++ (openR outer r.kind ++ textR r ++ shutR outer r.kind) ++ textL outer m rs (i + 1) else [] := rfl
theorem pone_zero (s : List UInt8) : pone 0 s = oneF none s := rfl
theorem pone_succ (k : Nat) (s : List UInt8) : pone (k + 1) s = oneF (some (pone k)) s := rfl
end Go.Proofs.YtgfbflnhjpbceaaGreatDoor.Range
