/-
  Versions, as plain lists of bytes: the version that stands at a place of a text, or what is wrong and where; what stands ahead of a place changes nothing. No condition.
-/
import Derived.Test.YtolkcblkciafiaaDoorIdMath
namespace Go.Proofs.YtolkcblkciafiaaDoor.Semver
open Num Ident

/-- A version: three numbers, two rows. -/
structure Ver where
  a : Nat
  b : Nat
  c : Nat
  pre : List (List UInt8)
  build : List (List UInt8)
deriving DecidableEq
def noVer : Ver := ⟨0, 0, 0, [], []⟩
/-- What is wrong, if no point stands at a place. -/
def point (l : List UInt8) (q : Nat) : Nat := if q = l.length then 2 else if byteAt l q ≠ 46 then 3 else 0
/-- The numbers' end: the error, the place, three numbers. -/
abbrev Core := Nat × Nat × Nat × Nat × Nat
def core2 (l : List UInt8) (x y p : Nat) : Core := if (parse l p).2.2 ≠ 0 then ((parse l p).2.2, p, 0, 0, 0) else (0, p + (parse l p).2.1, x, y, (parse l p).1)
def after2 (l : List UInt8) (x y q : Nat) : Core := if point l q ≠ 0 then (point l q, q, 0, 0, 0) else core2 l x y (q + 1)
def core1 (l : List UInt8) (x p : Nat) : Core := if (parse l p).2.2 ≠ 0 then ((parse l p).2.2, p, 0, 0, 0) else after2 l x (parse l p).1 (p + (parse l p).2.1)
def after1 (l : List UInt8) (x q : Nat) : Core := if point l q ≠ 0 then (point l q, q, 0, 0, 0) else core1 l x (q + 1)
/-- Three numerals with a point between two. -/
def core (l : List UInt8) (p : Nat) : Core := if (parse l p).2.2 ≠ 0 then ((parse l p).2.2, p, 0, 0, 0) else after1 l (parse l p).1 (p + (parse l p).2.1)
/-- The row behind a mark: the error, the place, the identifiers. -/
def rowAt (l : List UInt8) (p m : Nat) : Res :=
  if p = l.length ∨ byteAt l p ≠ (m : Int) then (0, p, []) else ((row l ((p + 1 : Nat) : Int) (m == 45)).1, p + 1 + (row l ((p + 1 : Nat) : Int) (m == 45)).2.1, (row l ((p + 1 : Nat) : Int) (m == 45)).2.2)
/-- What Parse answers: the error, the place, the version. -/
abbrev Out := Nat × Nat × Ver
def tail2 (l : List UInt8) (x y z : Nat) (pre : List (List UInt8)) (q : Nat) : Out :=
  if (rowAt l q 43).1 ≠ 0 then ((rowAt l q 43).1, (rowAt l q 43).2.1, noVer) else (0, (rowAt l q 43).2.1, ⟨x, y, z, pre, (rowAt l q 43).2.2⟩)
def tail1 (l : List UInt8) (x y z q : Nat) : Out :=
  if (rowAt l q 45).1 ≠ 0 then ((rowAt l q 45).1, (rowAt l q 45).2.1, noVer) else tail2 l x y z (rowAt l q 45).2.2 (rowAt l q 45).2.1
def inside (l : List UInt8) (p : Nat) : Out :=
  if (core l p).1 ≠ 0 then ((core l p).1, (core l p).2.1, noVer) else tail1 l (core l p).2.2.1 (core l p).2.2.2.1 (core l p).2.2.2.2 (core l p).2.1
def vparse (l : List UInt8) (p : Int) : Out := if p < 0 ∨ (l.length : Int) < p then (1, 0, noVer) else inside l p.toNat
/-- What Read answers. -/
def vread (l : List UInt8) : Out :=
  if (vparse l 0).1 ≠ 0 then ((vparse l 0).1, (vparse l 0).2.1, noVer) else if (vparse l 0).2.1 ≠ l.length then (13, (vparse l 0).2.1, noVer) else (0, 0, (vparse l 0).2.2)

theorem point_lt {l : List UInt8} {q : Nat} (hq : q ≤ l.length) (h : point l q = 0) : q < l.length := by
  unfold point at h
  split at h
  · omega
  · omega
theorem point_end {l : List UInt8} {q : Nat} (h : q = l.length) : point l q = 2 := by unfold point; rw [if_pos h]
theorem point_no {l : List UInt8} {q : Nat} (h : q ≠ l.length) (h2 : byteAt l q ≠ 46) : point l q = 3 := by unfold point; rw [if_neg h, if_pos h2]
theorem point_yes {l : List UInt8} {q : Nat} (h : q ≠ l.length) (h2 : byteAt l q = 46) : point l q = 0 := by unfold point; rw [if_neg h, if_neg (by simp [h2])]

theorem core2_end (l : List UInt8) (x y p : Nat) (hp : p ≤ l.length) : (core2 l x y p).2.1 ≤ l.length := by
  unfold core2; split
  · exact hp
  · exact parse_end l p hp
theorem after2_end (l : List UInt8) (x y q : Nat) (hq : q ≤ l.length) : (after2 l x y q).2.1 ≤ l.length := by
  unfold after2; split
  · exact hq
  · rename_i h; exact core2_end l x y _ (point_lt hq (by simpa using h))
theorem core1_end (l : List UInt8) (x p : Nat) (hp : p ≤ l.length) : (core1 l x p).2.1 ≤ l.length := by
  unfold core1; split
  · exact hp
  · exact after2_end l x _ _ (parse_end l p hp)
theorem after1_end (l : List UInt8) (x q : Nat) (hq : q ≤ l.length) : (after1 l x q).2.1 ≤ l.length := by
  unfold after1; split
  · exact hq
  · rename_i h; exact core1_end l x _ (point_lt hq (by simpa using h))
theorem core_end (l : List UInt8) (p : Nat) (hp : p ≤ l.length) : (core l p).2.1 ≤ l.length := by
  unfold core; split
  · exact hp
  · exact after1_end l _ _ (parse_end l p hp)
/-- All three numbers are held. -/
def Held (k : Core) : Prop := k.2.2.1 ≤ 9223372036854775807 ∧ k.2.2.2.1 ≤ 9223372036854775807 ∧ k.2.2.2.2 ≤ 9223372036854775807
theorem held_none (e p : Nat) : Held (e, p, 0, 0, 0) := by unfold Held; exact ⟨Nat.zero_le _, Nat.zero_le _, Nat.zero_le _⟩
theorem core2_held (l : List UInt8) (x y p : Nat) (hx : x ≤ 9223372036854775807) (hy : y ≤ 9223372036854775807) : Held (core2 l x y p) := by
  unfold core2; split
  · exact held_none _ _
  · exact ⟨hx, hy, parse_le l p⟩
theorem core1_held (l : List UInt8) (x p : Nat) (hx : x ≤ 9223372036854775807) : Held (core1 l x p) := by
  unfold core1; split
  · exact held_none _ _
  · unfold after2; split
    · exact held_none _ _
    · exact core2_held l _ _ _ hx (parse_le l p)
theorem core_held (l : List UInt8) (p : Nat) : Held (core l p) := by
  unfold core; split
  · exact held_none _ _
  · unfold after1; split
    · exact held_none _ _
    · exact core1_held l _ _ (parse_le l p)

theorem rowAt_end (l : List UInt8) (p m : Nat) (hp : p ≤ l.length) : (rowAt l p m).2.1 ≤ l.length := by
  unfold rowAt; split
  · exact hp
  · rename_i h
    have h1 : p + 1 ≤ l.length := by
      have : ¬ p = l.length := fun h2 => h (.inl h2)
      omega
    exact row_end l (p + 1) _ h1
theorem rowAt_len (l : List UInt8) (p m : Nat) : (rowAt l p m).2.2.length ≤ 17 := by
  unfold rowAt; split
  · simp
  · exact row_len _ _ _
theorem rowAt_none {l : List UInt8} {p m : Nat} (h : p = l.length ∨ byteAt l p ≠ (m : Int)) : rowAt l p m = (0, p, []) := by unfold rowAt; rw [if_pos h]
theorem rowAt_some {l : List UInt8} {p m : Nat} (h1 : p ≠ l.length) (h2 : byteAt l p = (m : Int)) : rowAt l p m = ((row l ((p + 1 : Nat) : Int) (m == 45)).1, p + 1 + (row l ((p + 1 : Nat) : Int) (m == 45)).2.1, (row l ((p + 1 : Nat) : Int) (m == 45)).2.2) := by
  unfold rowAt; rw [if_neg]; rintro (h | h)
  · exact h1 h
  · exact h h2
/-- How long the rows are. -/
theorem inside_len (l : List UInt8) (p : Nat) : (inside l p).2.2.pre.length ≤ 17 ∧ (inside l p).2.2.build.length ≤ 17 := by
  unfold inside; split
  · exact ⟨by simp [noVer], by simp [noVer]⟩
  · unfold tail1; split
    · exact ⟨by simp [noVer], by simp [noVer]⟩
    · unfold tail2; split
      · exact ⟨by simp [noVer], by simp [noVer]⟩
      · exact ⟨rowAt_len _ _ _, rowAt_len _ _ _⟩
theorem vparse_len (l : List UInt8) (p : Int) : (vparse l p).2.2.pre.length ≤ 17 ∧ (vparse l p).2.2.build.length ≤ 17 := by
  unfold vparse; split
  · exact ⟨by simp [noVer], by simp [noVer]⟩
  · exact inside_len _ _
theorem vread_len (l : List UInt8) : (vread l).2.2.pre.length ≤ 17 ∧ (vread l).2.2.build.length ≤ 17 := by
  unfold vread; split
  · exact ⟨by simp [noVer], by simp [noVer]⟩
  · split
    · exact ⟨by simp [noVer], by simp [noVer]⟩
    · exact vparse_len _ _
theorem inside_end (l : List UInt8) (p : Nat) (hp : p ≤ l.length) : (inside l p).2.1 ≤ l.length := by
  unfold inside; split
  · exact core_end l p hp
  · have h1 := core_end l p hp
    unfold tail1; split
    · exact rowAt_end _ _ _ h1
    · have h2 := rowAt_end l _ 45 h1
      unfold tail2; split
      · exact rowAt_end _ _ _ h2
      · exact rowAt_end _ _ _ h2
theorem vparse_end (l : List UInt8) (p : Int) : (vparse l p).2.1 ≤ l.length := by
  unfold vparse; split
  · simp
  · rename_i h; exact inside_end _ _ (by omega)
theorem inside_bad {l : List UInt8} {p : Nat} (h : (inside l p).1 ≠ 0) : (inside l p).2.2 = noVer := by
  unfold inside at h ⊢; split
  · rfl
  · rename_i h1
    rw [if_neg h1] at h
    unfold tail1 at h ⊢; split
    · rfl
    · rename_i h2
      rw [if_neg h2] at h
      unfold tail2 at h ⊢; split
      · rfl
      · rename_i h3
        rw [if_neg h3] at h; exact absurd rfl h
theorem vparse_bad {l : List UInt8} {p : Int} (h : (vparse l p).1 ≠ 0) : (vparse l p).2.2 = noVer := by
  unfold vparse at h ⊢; split
  · rfl
  · rename_i h1; rw [if_neg h1] at h; exact inside_bad h

/-! What stands ahead of a place. -/
theorem byteAt_place (a b : List UInt8) (p : Nat) : byteAt (a ++ b) (a.length + p) = byteAt b p := by
  unfold byteAt List.getD
  rw [List.getElem?_append_right (by omega), show a.length + p - a.length = p by omega]
theorem point_place (a b : List UInt8) (q : Nat) : point (a ++ b) (a.length + q) = point b q := by
  unfold point
  rw [byteAt_place, List.length_append]
  by_cases h : q = b.length
  · rw [if_pos (by omega), if_pos h]
  · rw [if_neg (by omega), if_neg h]
def shift (n : Nat) (k : Core) : Core := (k.1, n + k.2.1, k.2.2)
theorem core2_place (a b : List UInt8) (x y p : Nat) (hp : p ≤ b.length) : core2 (a ++ b) x y (a.length + p) = shift a.length (core2 b x y p) := by
  unfold core2
  rw [parse_place_at a b p hp]
  split
  · rfl
  · unfold shift; simp only [Nat.add_assoc]
theorem after2_place (a b : List UInt8) (x y q : Nat) (hq : q ≤ b.length) : after2 (a ++ b) x y (a.length + q) = shift a.length (after2 b x y q) := by
  unfold after2
  rw [point_place]
  split
  · rfl
  · rename_i h
    exact core2_place a b x y (q + 1) (point_lt hq (by simpa using h))
theorem core1_place (a b : List UInt8) (x p : Nat) (hp : p ≤ b.length) : core1 (a ++ b) x (a.length + p) = shift a.length (core1 b x p) := by
  unfold core1
  rw [parse_place_at a b p hp]
  split
  · rfl
  · rw [Nat.add_assoc]; exact after2_place a b x _ _ (parse_end b p hp)
theorem after1_place (a b : List UInt8) (x q : Nat) (hq : q ≤ b.length) : after1 (a ++ b) x (a.length + q) = shift a.length (after1 b x q) := by
  unfold after1
  rw [point_place]
  split
  · rfl
  · rename_i h
    exact core1_place a b x (q + 1) (point_lt hq (by simpa using h))
theorem core_place (a b : List UInt8) (p : Nat) (hp : p ≤ b.length) : core (a ++ b) (a.length + p) = shift a.length (core b p) := by
  unfold core
  rw [parse_place_at a b p hp]
  split
  · rfl
  · rw [Nat.add_assoc]; exact after1_place a b _ _ (parse_end b p hp)
theorem rowAt_place (a b : List UInt8) (p m : Nat) (hp : p ≤ b.length) : rowAt (a ++ b) (a.length + p) m = ((rowAt b p m).1, a.length + (rowAt b p m).2.1, (rowAt b p m).2.2) := by
  unfold rowAt
  rw [byteAt_place, List.length_append]
  by_cases h : p = b.length ∨ byteAt b p ≠ (m : Int)
  · rw [if_pos (by rcases h with h | h; (· left; omega); (· right; exact h)), if_pos h]
  · have h1 : p + 1 ≤ b.length := by
      have : ¬ p = b.length := fun h2 => h (.inl h2)
      omega
    rw [if_neg (by rintro (h2 | h2); (· exact h (.inl (by omega))); (· exact h (.inr h2))), if_neg h, Nat.add_assoc a.length p 1, row_place a b (p + 1) _ h1]
    simp only [Nat.add_assoc]
def move (n : Nat) (r : Out) : Out := (r.1, n + r.2.1, r.2.2)
theorem inside_place (a b : List UInt8) (p : Nat) (hp : p ≤ b.length) : inside (a ++ b) (a.length + p) = move a.length (inside b p) := by
  unfold inside
  rw [core_place a b p hp]
  have h1 := core_end b p hp
  unfold shift
  simp only
  split
  · rfl
  · unfold tail1
    rw [rowAt_place a b _ 45 h1]
    have h2 := rowAt_end b _ 45 h1
    simp only
    split
    · rfl
    · unfold tail2
      rw [rowAt_place a b _ 43 h2]
      simp only
      split <;> rfl
theorem vparse_place (a b : List UInt8) : vparse (a ++ b) a.length = move a.length (vparse b 0) := by
  unfold vparse
  rw [if_neg (by simp only [List.length_append]; omega), if_neg (by omega), Int.toNat_natCast]
  exact inside_place a b 0 (Nat.zero_le _)
end Go.Proofs.YtolkcblkciafiaaDoor.Semver
