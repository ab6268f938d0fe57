/-
  Which versions are right and which are the same, a version's text. Plain facts.
-/
import Derived.Test.YtolkcblkciafiaaDoorSvMath
import Derived.Test.YtolkcblkciafiaaDoorIdJoin
import Derived.Lib.ItoaLen
namespace Go.Proofs.YtolkcblkciafiaaDoor.Semver
open Go.RowKit Num Ident

/-- Are all three numbers held? -/
def heldB (x y z : Nat) : Bool := decide (x ≤ maxField ∧ y ≤ maxField ∧ z ≤ maxField)
theorem heldB_yes {x y z : Nat} (hx : x ≤ maxField) (hy : y ≤ maxField) (hz : z ≤ maxField) : heldB x y z = true := decide_eq_true ⟨hx, hy, hz⟩
theorem heldB_no {x y z : Nat} (h : ¬ (x ≤ maxField ∧ y ≤ maxField ∧ z ≤ maxField)) : heldB x y z = false := decide_eq_false h
/-- Is a version right? -/
def goodV (v : Ver) : Bool := heldB v.a v.b v.c && (goodFrom true v.pre 0 && goodFrom false v.build 0)
theorem field_le {x : Nat} (h : (x : Int) ≤ 9223372036854775807) : x ≤ maxField := by unfold maxField; omega
theorem field_no {x : Nat} (h : ¬ (x : Int) ≤ 9223372036854775807) : ¬ x ≤ maxField := by unfold maxField; omega
/-- Are two versions the same? -/
def sameV (u v : Ver) : Bool := decide (u.a = v.a ∧ u.b = v.b ∧ u.c = v.c) && (sameB u.pre v.pre && sameB u.build v.build)
theorem sameV_self (v : Ver) : sameV v v = true := by unfold sameV; rw [(sameB_iff _ _).2 rfl, (sameB_iff _ _).2 rfl]; simp
/-- A row's text behind its mark. -/
def rowText (m : UInt8) (xs : List (List UInt8)) : List UInt8 := if xs.length = 0 then [] else m :: joined xs
/-- A version's text. -/
def vtext (v : Ver) : List UInt8 := Lib.decDigits v.a ++ [46] ++ Lib.decDigits v.b ++ [46] ++ Lib.decDigits v.c ++ rowText 45 v.pre ++ rowText 43 v.build
theorem rowText_none {m : UInt8} {xs : List (List UInt8)} (h : xs.length = 0) : rowText m xs = [] := by unfold rowText; rw [if_pos h]
theorem rowText_some {m : UInt8} {xs : List (List UInt8)} (h : xs.length ≠ 0) : rowText m xs = [m] ++ joined xs := by unfold rowText; rw [if_neg h]; rfl
theorem short_joined {xs : List (List UInt8)} (h : shortB xs = true) : (joined xs).length ≤ 12040 := by
  rw [shortB_iff] at h
  have := joined_le xs h.2
  omega
theorem rowText_le {m : UInt8} {xs : List (List UInt8)} (h : shortB xs = true) : (rowText m xs).length ≤ 12041 := by
  unfold rowText
  split
  · simp
  · have := short_joined h
    simp; exact this
theorem dec_le (u : Nat) (h : u < 18446744073709551616) : (Lib.decDigits u).length ≤ 20 := by rw [Lib.decDigits_length]; exact Lib.nDigits_le20 u h
theorem held_not1 {x y z : Nat} (h : ¬ (x : Int) < 9223372036854775808) : heldB x y z = false := heldB_no fun hh => h (by have := hh.1; unfold maxField at this; omega)
theorem held_not2 {x y z : Nat} (h : ¬ (y : Int) < 9223372036854775808) : heldB x y z = false := heldB_no fun hh => h (by have := hh.2.1; unfold maxField at this; omega)
theorem held_not3 {x y z : Nat} (h : ¬ (z : Int) < 9223372036854775808) : heldB x y z = false := heldB_no fun hh => h (by have := hh.2.2; unfold maxField at this; omega)
theorem held_all {x y z : Nat} (h1 : (x : Int) < 9223372036854775808) (h2 : (y : Int) < 9223372036854775808) (h3 : (z : Int) < 9223372036854775808) : heldB x y z = true :=
  heldB_yes (by unfold maxField; omega) (by unfold maxField; omega) (by unfold maxField; omega)
theorem sameV_no {u v : Ver} (h : ¬ (u.a = v.a ∧ u.b = v.b ∧ u.c = v.c)) : sameV u v = false := by unfold sameV; rw [decide_eq_false h]; rfl
end Go.Proofs.YtolkcblkciafiaaDoor.Semver
