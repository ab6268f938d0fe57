/-
  The law NumCompares answers true for any two texts, and writes nothing that was there. Condition: the texts' lengths are those that the form allows.
-/
import Derived.Test.YtddgbekcoadolaaNumRefCmp
namespace Go.Proofs.Ytddgbekcoadolaa.Num
open Go.RowKit

theorem ordN_bd (x y : Nat) : -1 ≤ ordN x y ∧ ordN x y ≤ 1 := by
  rcases Nat.lt_trichotomy x y with h | h | h
  · rw [ordN_lt h]; omega
  · rw [ordN_eq h]; omega
  · rw [ordN_gt h]; omega
theorem cmpNum_bd (a b : List UInt8) : -1 ≤ cmpNum a b ∧ cmpNum a b ≤ 1 := by
  unfold cmpNum; split
  · exact ordN_bd _ _
  · omega

set_option maxHeartbeats 800000 in
theorem compares_any (s t : ByteArray) (w : World) (hs : s.size ≤ maxLen) (ht : t.size ≤ maxLen) :
    Calls Try.prog 4 #[.string s, .string t] w fun e w' => e = .returned (.bool true) ∧ Below w.heap.size w w' := by
  have HS := Lib.hid hs
  have HT := Lib.hid ht
  unfold maxLen at hs ht
  by_cases h0 : 200 < s.size
  · go_enter Try.func4, Try.ntmps4
    go_wp2_with fail
    refine (awake_any _).mono ?_
    rintro e w1 ⟨rfl, hb1⟩
    go_wp2
    go_ret
    exact ⟨rfl, hb1⟩
  by_cases h1 : 200 < t.size
  · go_enter Try.func4, Try.ntmps4
    go_wp2_with fail
    refine (awake_any _).mono ?_
    rintro e w1 ⟨rfl, hb1⟩
    go_wp2
    go_ret
    exact ⟨rfl, hb1⟩
  have hbd := cmpNum_bd s.data.toList t.data.toList
  have HFL := Lib.hid (cmpNum_flip s.data.toList t.data.toList)
  go_enter Try.func4, Try.ntmps4
  go_wp2_with fail
  refine (awake_any _).mono ?_
  rintro e w1 ⟨rfl, hb1⟩
  have hz1 := hb1.size
  go_wp2_with fail
  refine (compare_any s t _ HS.out HT.out).mono ?_
  rintro e w2 ⟨rfl, hb2⟩
  have HB2 := Lib.hid (hb1.trans (hb2.mono hz1))
  have hz2 := HB2.out.size
  go_wp2_with fail
  refine (is_any s _ HS.out).mono ?_
  rintro e w3 ⟨rfl, hb3⟩
  have HB3 := Lib.hid (HB2.out.trans (hb3.mono hz2))
  have hz3 := HB3.out.size
  go_wp2_with fail
  refine (ref_is_any s _ (by omega)).mono ?_
  rintro e w' ⟨rfl, rfl⟩
  go_wp2_with fail
  refine (ref_cmp_any s t _ (by omega) (by omega)).mono ?_
  rintro e w' ⟨rfl, rfl⟩
  go_wp2_with fail
  refine (compare_any t s _ HT.out HS.out).mono ?_
  rintro e w4 ⟨rfl, hb4⟩
  rw [HFL.out]
  have HB4 := Lib.hid (HB3.out.trans (hb4.mono hz3))
  go_wp2
  go_ret
  exact ⟨rfl, HB4.out⟩
end Go.Proofs.Ytddgbekcoadolaa.Num
