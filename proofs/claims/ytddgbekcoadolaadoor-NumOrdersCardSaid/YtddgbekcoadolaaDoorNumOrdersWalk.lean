/-
  The law NumOrders answers true for any two numbers, and writes nothing that was there. Condition: the library's table of powers of ten reads as it is written.
-/
import Derived.Test.YtddgbekcoadolaaDoorNumText
namespace Go.Proofs.YtddgbekcoadolaaDoor.Num
open Go.RowKit

theorem dec_size (u : Nat) (h : u < 18446744073709551616) : (⟨(Lib.decDigits u).toArray⟩ : ByteArray).size ≤ 20 := by
  have : (⟨(Lib.decDigits u).toArray⟩ : ByteArray).size = (Lib.decDigits u).length := rfl
  rw [this, Lib.decDigits_length]; exact Lib.nDigits_le20 u h

theorem cmp_dec (u v : Nat) : cmpNum (Lib.decDigits u) (Lib.decDigits v) = ordN u v := by
  rw [cmpNum_yes (dec_num u) (dec_num v), dec_val, dec_val]

set_option maxHeartbeats 800000 in
theorem orders_any (u v : Nat) (hu : u < 18446744073709551616) (hv : v < 18446744073709551616) (w : World) (htab : Tab w) :
    Calls Tryd.prog 4 #[.int .u64 u, .int .u64 v] w fun e w' => e = .returned (.bool true) ∧ Below w.heap.size w w' := by
  have HT := Lib.hid htab; clear htab
  have HU := Lib.hid hu; clear hu
  have HV := Lib.hid hv; clear hv
  go_enter Tryd.func4, Tryd.ntmps4
  go_wp2_with fail
  refine (awake_any _).mono ?_
  rintro e w1 ⟨rfl, hb1⟩
  have hz1 := hb1.size
  go_wp2_with fail
  refine (text_any u HU.out _ (HT.out.kept hb1)).mono ?_
  rintro e w2 ⟨rfl, hb2⟩
  have HB2 := Lib.hid (hb1.trans (hb2.mono hz1))
  have hz2 := HB2.out.size
  go_wp2_with fail
  refine (text_any v HV.out _ (HT.out.kept HB2.out)).mono ?_
  rintro e w3 ⟨rfl, hb3⟩
  have HB3 := Lib.hid (HB2.out.trans (hb3.mono hz2))
  have hz3 := HB3.out.size
  go_wp2_with fail
  refine (compare_any _ _ _ (Nat.le_trans (dec_size u HU.out) (by unfold maxLen; omega)) (Nat.le_trans (dec_size v HV.out) (by unfold maxLen; omega))).mono ?_
  rintro e w4 ⟨rfl, hb4⟩
  have HB4 := Lib.hid (HB3.out.trans (hb4.mono hz3))
  clear hb1 hb2 hb3 hb4 hz1 hz2 hz3
  rw [show cmpNum (⟨(Lib.decDigits u).toArray⟩ : ByteArray).data.toList (⟨(Lib.decDigits v).toArray⟩ : ByteArray).data.toList = ordN u v from cmp_dec u v]
  rcases Nat.lt_trichotomy u v with h | h | h
  · rw [ordN_lt h]
    have h2 : decide (v < u) = false := decide_eq_false (by omega)
    go_wp2
    go_ret
    exact ⟨rfl, HB4.out⟩
  · rw [ordN_eq h]
    subst h
    go_wp2
    go_ret
    exact ⟨rfl, HB4.out⟩
  · rw [ordN_gt h]
    have h2 : decide (u < v) = false := decide_eq_false (by omega)
    go_wp2
    go_ret
    exact ⟨rfl, HB4.out⟩
end Go.Proofs.YtddgbekcoadolaaDoor.Num
