/-
  An identifier's bytes as numbers, what is wrong with an identifier, texts without a byte. Plain facts.
-/
import Derived.Test.YtolkcblkciafiaaDoorIdMath
namespace Go.Proofs.YtolkcblkciafiaaDoor.Ident
open Go.RowKit Num

def digB (x : Int) : Bool := decide (48 ≤ x ∧ x ≤ 57)
def letB (x : Int) : Bool := decide ((65 ≤ x ∧ x ≤ 90) ∨ (97 ≤ x ∧ x ≤ 122))
theorem digB_yes {x : Int} (h : 48 ≤ x ∧ x ≤ 57) : digB x = true := decide_eq_true h
theorem digB_no {x : Int} (h : ¬ (48 ≤ x ∧ x ≤ 57)) : digB x = false := decide_eq_false h
theorem letB_yes {x : Int} (h : (65 ≤ x ∧ x ≤ 90) ∨ (97 ≤ x ∧ x ≤ 122)) : letB x = true := decide_eq_true h
theorem letB_no {x : Int} (h : ¬ ((65 ≤ x ∧ x ≤ 90) ∨ (97 ≤ x ∧ x ≤ 122))) : letB x = false := decide_eq_false h
theorem digB_at (b : UInt8) : digB (b.toNat : Int) = isDig b := by
  rw [Bool.eq_iff_iff, isDig_iff]; unfold digB; rw [decide_eq_true_eq]; omega
theorem letB_at (b : UInt8) : letB (b.toNat : Int) = isLet b := by
  rw [Bool.eq_iff_iff, isLet_iff]; unfold letB; rw [decide_eq_true_eq]; omega
/-- Is this number an identifier's byte? -/
def idB (x : Int) : Bool := digB x || letB x || x == 45
theorem idB_at (b : UInt8) : idB (b.toNat : Int) = isId b := by
  unfold idB isId; rw [digB_at, letB_at]; congr 1; rw [Bool.eq_iff_iff]; simp; omega
theorem fault_5 {s : List UInt8} (i : Nat) (pre : Bool) (h : s.length = 0) : fault s i pre = 5 := by unfold fault; rw [if_pos h]
theorem fault_4 {s : List UInt8} {i : Nat} (pre : Bool) (h0 : s.length ≠ 0) (h : 255 < s.length ∨ 16 ≤ i) : fault s i pre = 4 := by unfold fault; rw [if_neg h0, if_pos h]
theorem fault_3 {s : List UInt8} {i : Nat} {pre : Bool} (h0 : s.length ≠ 0) (h1 : ¬ (255 < s.length ∨ 16 ≤ i)) (h : pre = true ∧ numeric s = true ∧ isNum s = false) : fault s i pre = 3 := by
  unfold fault; rw [if_neg h0, if_neg h1, if_pos h]
theorem fault_0 {s : List UInt8} {i : Nat} {pre : Bool} (h0 : s.length ≠ 0) (h1 : ¬ (255 < s.length ∨ 16 ≤ i)) (h : ¬ (pre = true ∧ numeric s = true ∧ isNum s = false)) : fault s i pre = 0 := by
  unfold fault; rw [if_neg h0, if_neg h1, if_neg h]
theorem empty_iff (s : ByteArray) : s.toList.isEmpty = true ↔ s.size = 0 := by
  rw [Lib.toList_data, List.isEmpty_iff_length_eq_zero, ← Lib.size_eq]
theorem empty_no (s : ByteArray) : s.toList.isEmpty = false ↔ s.size ≠ 0 := by
  rw [← Bool.not_eq_true, empty_iff]
end Go.Proofs.YtolkcblkciafiaaDoor.Ident
