/-
  How versions stand, by precedence and in the full order; the ends of a version. Plain facts: both are orders; builds don't count in the one; a version stands ahead of its ends, the first of a core ahead of none of its numbers.
-/
import Derived.Test.YtdbdeadcffpbfaaGreatDoorSvPlain
namespace Go.Proofs.YtdbdeadcffpbfaaGreatDoor.Prec
open Go.RowKit Num Ident Semver

/-- A way of comparing that is an order of what is like in it. -/
structure Ordr {T : Type} (f : T → T → Int) : Prop where
  flip : ∀ x y, f y x = 0 - f x y
  trans : ∀ x y z, f x y ≤ 0 → f y z ≤ 0 → f x z ≤ 0
theorem Ordr.self {T : Type} {f : T → T → Int} (h : Ordr f) (x : T) : f x x = 0 := by have := h.flip x x; omega
/-- By the one, and of those that are like in it by the other. -/
def lex {T : Type} (f g : T → T → Int) (x y : T) : Int := if f x y = 0 then g x y else f x y
theorem lex_no {T : Type} {f g : T → T → Int} {x y : T} (h : f x y ≠ 0) : lex f g x y = f x y := by unfold lex; rw [if_neg h]
theorem lex_yes {T : Type} {f g : T → T → Int} {x y : T} (h : f x y = 0) : lex f g x y = g x y := by unfold lex; rw [if_pos h]
theorem Ordr.lex {T : Type} {f g : T → T → Int} (hf : Ordr f) (hg : Ordr g) : Ordr (lex f g) := by
  refine ⟨fun x y => ?_, fun x y z h1 h2 => ?_⟩
  · have e := hf.flip x y
    by_cases h : f x y = 0
    · rw [lex_yes h, lex_yes (by omega)]; exact hg.flip x y
    · rw [lex_no h, lex_no (by omega)]; exact e
  · have a1 : f x y ≤ 0 := by
      by_cases h : f x y = 0
      · omega
      · rw [lex_no h] at h1; exact h1
    have a2 : f y z ≤ 0 := by
      by_cases h : f y z = 0
      · omega
      · rw [lex_no h] at h2; exact h2
    have a3 := hf.trans x y z a1 a2
    by_cases h : f x z = 0
    · have e1 := hf.flip x z
      have e2 := hf.flip x y
      have e3 := hf.flip y z
      have b1 := hf.trans z x y (by omega) a1
      have b2 := hf.trans y z x a2 (by omega)
      rw [lex_yes h]
      rw [lex_yes (show f x y = 0 by omega)] at h1
      rw [lex_yes (show f y z = 0 by omega)] at h2
      exact hg.trans x y z h1 h2
    · rw [lex_no h]; exact a3
theorem Ordr.on {T U : Type} {f : T → T → Int} (h : Ordr f) (k : U → T) : Ordr fun x y => f (k x) (k y) := ⟨fun _ _ => h.flip _ _, fun _ _ _ => h.trans _ _ _⟩

theorem ordN_ordr : Ordr ordN := by
  refine ⟨fun x y => ordN_flip x y, fun x y z h1 h2 => ?_⟩
  rcases ordN_cases x y with ⟨a, b⟩ | ⟨a, b⟩ | ⟨a, b⟩ <;> rcases ordN_cases y z with ⟨c, d⟩ | ⟨c, d⟩ | ⟨c, d⟩ <;> rcases ordN_cases x z with ⟨e, f⟩ | ⟨e, f⟩ | ⟨e, f⟩ <;> omega
theorem bytes_flip : ∀ a b : List UInt8, Lib.compareBytes b a = 0 - Lib.compareBytes a b
  | [], [] => rfl
  | [], _ :: _ => rfl
  | _ :: _, [] => rfl
  | x :: a, y :: b => by
    unfold Lib.compareBytes
    simp only [UInt8.lt_iff_toNat_lt]
    by_cases h1 : x.toNat < y.toNat
    · rw [if_pos h1, if_neg (show ¬ y.toNat < x.toNat by omega), if_pos h1]; rfl
    · by_cases h2 : y.toNat < x.toNat
      · rw [if_pos h2, if_neg h1, if_pos h2]; rfl
      · rw [if_neg h2, if_neg h1, if_neg h1, if_neg h2]; exact bytes_flip a b
theorem cmpId_flip (a b : List UInt8) : cmpId b a = 0 - cmpId a b := by
  unfold cmpId
  by_cases ha : numeric a = true
  · by_cases hb : numeric b = true
    · have e1 := ordN_flip (val a) (val b)
      have e2 := ordN_flip a.length b.length
      simp only [if_pos ha, if_pos hb]
      by_cases h : ordN (val a) (val b) = 0
      · rw [if_pos h, if_pos (by omega)]; exact e2
      · rw [if_neg h, if_neg (by omega)]; exact e1
    · simp only [if_pos ha, if_neg hb]; rfl
  · by_cases hb : numeric b = true
    · simp only [if_neg ha, if_pos hb]; rfl
    · simp only [if_neg ha, if_neg hb]; exact bytes_flip a b
theorem cmpId_ordr : Ordr cmpId := ⟨cmpId_flip, cmpId_trans⟩

theorem rows_flip : ∀ r s : List (List UInt8), cmpRows s r = 0 - cmpRows r s
  | [], s => by rw [cmpRows_nil, cmpRows_nil']; exact ordN_flip 0 s.length
  | a :: r, [] => by rw [cmpRows_nil, cmpRows_nil']; exact ordN_flip _ 0
  | a :: r, b :: s => by
    have e := cmpId_flip a b
    by_cases h : cmpId a b = 0
    · rw [cmpRows_same h, cmpRows_same (by omega)]; exact rows_flip r s
    · rw [cmpRows_diff h, cmpRows_diff (by omega)]; exact e
theorem rows_nil_le (s : List (List UInt8)) : cmpRows [] s ≤ 0 := by
  rw [cmpRows_nil]; rcases ordN_cases 0 s.length with h | h | h <;> omega
theorem rows_trans : ∀ r s t : List (List UInt8), cmpRows r s ≤ 0 → cmpRows s t ≤ 0 → cmpRows r t ≤ 0
  | [], _, t, _, _ => rows_nil_le t
  | a :: r, [], _, h, _ => by
    rw [cmpRows_nil'] at h
    rcases ordN_cases (a :: r).length 0 with h2 | h2 | h2
    · exact absurd h2.1 (by simp)
    · exact absurd h2.1 (by simp)
    · omega
  | a :: r, b :: s, [], _, h => by
    rw [cmpRows_nil'] at h
    rcases ordN_cases (b :: s).length 0 with h2 | h2 | h2
    · exact absurd h2.1 (by simp)
    · exact absurd h2.1 (by simp)
    · omega
  | a :: r, b :: s, c :: t, h1, h2 => by
    have a1 : cmpId a b ≤ 0 := by
      by_cases h : cmpId a b = 0
      · omega
      · rw [cmpRows_diff h] at h1; exact h1
    have a2 : cmpId b c ≤ 0 := by
      by_cases h : cmpId b c = 0
      · omega
      · rw [cmpRows_diff h] at h2; exact h2
    have a3 := cmpId_trans a b c a1 a2
    by_cases h : cmpId a c = 0
    · have e1 := cmpId_flip a c
      have e2 := cmpId_flip a b
      have e3 := cmpId_flip b c
      have b1 := cmpId_trans c a b (by omega) a1
      have b2 := cmpId_trans b c a a2 (by omega)
      rw [cmpRows_same h]
      rw [cmpRows_same (show cmpId a b = 0 by omega)] at h1
      rw [cmpRows_same (show cmpId b c = 0 by omega)] at h2
      exact rows_trans r s t h1 h2
    · rw [cmpRows_diff h]; exact a3
theorem rows_ordr : Ordr cmpRows := ⟨rows_flip, rows_trans⟩

/-- 1 of a row without a text, 0 of another. -/
def noneN (x : List (List UInt8)) : Nat := if x.length = 0 then 1 else 0
/-- How rows ahead of release stand: one without a text behind. -/
def cmpPre : List (List UInt8) → List (List UInt8) → Int := lex (fun x y => ordN (noneN x) (noneN y)) cmpRows
theorem cmpPre_one {x y : List (List UInt8)} (h1 : x.length = 0) (h2 : y.length ≠ 0) : cmpPre x y = 1 := by
  have e : ordN (noneN x) (noneN y) = 1 := by unfold noneN; rw [if_pos h1, if_neg h2]; rfl
  unfold cmpPre; rw [lex_no (by rw [e]; omega)]; exact e
theorem cmpPre_two {x y : List (List UInt8)} (h1 : x.length ≠ 0) (h2 : y.length = 0) : cmpPre x y = -1 := by
  have e : ordN (noneN x) (noneN y) = -1 := by unfold noneN; rw [if_neg h1, if_pos h2]; rfl
  unfold cmpPre; rw [lex_no (by rw [e]; omega)]; exact e
theorem cmpPre_rows {x y : List (List UInt8)} (h : x.length = 0 ↔ y.length = 0) : cmpPre x y = cmpRows x y := by
  have e : ordN (noneN x) (noneN y) = 0 := by
    unfold noneN
    by_cases h1 : x.length = 0
    · rw [if_pos h1, if_pos (h.1 h1)]; rfl
    · rw [if_neg h1, if_neg (fun h2 => h1 (h.2 h2))]; rfl
  unfold cmpPre; exact lex_yes e
/-- How versions' numbers stand. -/
def cmpCore : Ver → Ver → Int := lex (fun u v => ordN u.a v.a) (lex (fun u v => ordN u.b v.b) fun u v => ordN u.c v.c)
theorem ordN_zero_iff (x y : Nat) : ordN x y = 0 ↔ x = y := by rcases ordN_cases x y with h | h | h <;> omega
theorem cmpCore_1 {u v : Ver} (h : u.a ≠ v.a) : cmpCore u v = ordN u.a v.a := by
  unfold cmpCore; exact lex_no (fun e => h ((ordN_zero_iff _ _).1 e))
theorem cmpCore_2 {u v : Ver} (h1 : u.a = v.a) (h : u.b ≠ v.b) : cmpCore u v = ordN u.b v.b := by
  unfold cmpCore; refine (lex_yes (f := fun u v : Ver => ordN u.a v.a) ((ordN_zero_iff _ _).2 h1)).trans ?_; exact lex_no (fun e => h ((ordN_zero_iff _ _).1 e))
theorem cmpCore_3 {u v : Ver} (h1 : u.a = v.a) (h2 : u.b = v.b) : cmpCore u v = ordN u.c v.c := by
  unfold cmpCore; refine (lex_yes (f := fun u v : Ver => ordN u.a v.a) ((ordN_zero_iff _ _).2 h1)).trans ?_; exact lex_yes ((ordN_zero_iff _ _).2 h2)
/-- How versions stand by precedence. -/
def cmpV : Ver → Ver → Int := lex cmpCore fun u v => cmpPre u.pre v.pre
/-- How versions stand in the full order. -/
def fullV : Ver → Ver → Int := lex cmpV fun u v => cmpRows u.build v.build
theorem core_ordr : Ordr cmpCore := (ordN_ordr.on Ver.a).lex ((ordN_ordr.on Ver.b).lex (ordN_ordr.on Ver.c))
theorem pre_ordr : Ordr cmpPre := (ordN_ordr.on noneN).lex rows_ordr
theorem cmpV_ordr : Ordr cmpV := core_ordr.lex (pre_ordr.on Ver.pre)
theorem fullV_ordr : Ordr fullV := cmpV_ordr.lex (rows_ordr.on Ver.build)

/-- A version without its build. -/
def bare (v : Ver) : Ver := { v with build := [] }
theorem bare_cmp (v w : Ver) : cmpV (bare v) w = cmpV v w := rfl
theorem bare_like (v : Ver) : cmpV v (bare v) = 0 := by
  have e : cmpV v (bare v) = cmpV v v := rfl
  rw [e]; exact cmpV_ordr.self v
theorem bare_full (v : Ver) : fullV (bare v) v = ordN 0 v.build.length := by
  have e : cmpV (bare v) v = 0 := cmpV_ordr.self v
  unfold fullV
  rw [lex_yes e]; exact cmpRows_nil _
theorem bare_le (v : Ver) : fullV (bare v) v ≤ 0 := by rw [bare_full]; rcases ordN_cases 0 v.build.length with h | h | h <;> omega
theorem bare_zero (v : Ver) : fullV (bare v) v = 0 ↔ v.build.length = 0 := by rw [bare_full, ordN_zero_iff]; omega

/-- The first of a core. -/
def firstV (x y z : Nat) : Ver := ⟨x, y, z, [[48]], []⟩
theorem cmpId_zero (x : List UInt8) : cmpId [48] x ≤ 0 := by
  unfold cmpId
  rw [if_pos (show numeric [48] = true from rfl)]
  by_cases h : numeric x = true
  · rw [if_pos h]
    have h0 := ((numeric_iff x).1 h).1
    rcases ordN_cases (val [48]) (val x) with h1 | h1 | h1
    · rw [if_neg (show ¬ ordN (val [48]) (val x) = 0 by omega)]; omega
    · rw [if_pos h1.2]
      rcases ordN_cases ([48] : List UInt8).length x.length with h2 | h2 | h2
      · omega
      · omega
      · have h3 : x.length < 1 := h2.1
        omega
    · have : val [48] = 0 := rfl
      omega
  · rw [if_neg h]; omega
theorem first_le (w : Ver) : cmpV (firstV w.a w.b w.c) w ≤ 0 := by
  have e : cmpCore (firstV w.a w.b w.c) w = 0 := core_ordr.self w
  unfold cmpV
  rw [lex_yes e]
  show cmpPre [[48]] w.pre ≤ 0
  cases h : w.pre with
  | nil => rw [cmpPre_two (by simp) rfl]; omega
  | cons x r =>
    rw [cmpPre_rows (by simp)]
    have h0 := cmpId_zero x
    by_cases h1 : cmpId [48] x = 0
    · rw [cmpRows_same h1]; exact rows_nil_le r
    · rw [cmpRows_diff h1]; exact h0
/-- The end at a place of three numbers. -/
def endV (x y z i : Nat) : Option Ver :=
  if i = 0 then (if 9223372036854775807 ≤ x then none else some (firstV (x + 1) 0 0))
  else if i = 1 then (if 9223372036854775807 ≤ y then none else some (firstV x (y + 1) 0))
  else if 9223372036854775807 ≤ z then none else some (firstV x y (z + 1))
/-- Where the leftmost number is that isn't 0 (of 0, 0, 0: the last). -/
def placeV (x y : Nat) : Nat := if x ≠ 0 then 0 else if y ≠ 0 then 1 else 2
def caretV (v : Ver) : Option Ver := endV v.a v.b v.c (placeV v.a v.b)
def tildeV (v : Ver) : Option Ver := endV v.a v.b v.c 1
/-- An end as a version. -/
def verOf (o : Option Ver) : Ver := o.getD noVer
theorem end_ahead {v e : Ver} {i : Nat} (h : endV v.a v.b v.c i = some e) : cmpV v e = -1 := by
  have k : cmpCore v e = -1 := by
    unfold endV at h
    split at h
    · split at h
      · cases h
      · cases h
        rw [cmpCore_1 (by show v.a ≠ v.a + 1; omega)]; exact ordN_lt (Nat.lt_succ_self v.a)
    · split at h
      · split at h
        · cases h
        · cases h
          exact (cmpCore_2 (u := v) (v := firstV v.a (v.b + 1) 0) rfl (by show v.b ≠ v.b + 1; omega)).trans (ordN_lt (Nat.lt_succ_self v.b))
      · split at h
        · cases h
        · cases h
          exact (cmpCore_3 (u := v) (v := firstV v.a v.b (v.c + 1)) rfl rfl).trans (ordN_lt (Nat.lt_succ_self v.c))
  unfold cmpV
  rw [lex_no (by rw [k]; omega)]; exact k
theorem caret_ahead {v e : Ver} (h : caretV v = some e) : cmpV v e = -1 := end_ahead h
theorem tilde_ahead {v e : Ver} (h : tildeV v = some e) : cmpV v e = -1 := end_ahead h
end Go.Proofs.YtdbdeadcffpbfaaGreatDoor.Prec
