/-
  How numerals compare (num.Compare), for any texts. Condition: the texts' lengths are those that the form allows.
-/
import Derived.Test.YtdbdeadcffpbfaaGreatDoorNumIs
namespace Go.Proofs.YtdbdeadcffpbfaaGreatDoor.Num
open Go.RowKit

set_option maxRecDepth 100000 in
set_option maxHeartbeats 800000 in
theorem cmp_any (x y : Nat) (w : World) :
    Calls Tryz.prog 45 #[.int .i64 x, .int .i64 y] w fun e w' => e = .returned (.int .i64 (ordN x y)) ∧ w = w' := by
  rcases Nat.lt_trichotomy x y with h | h | h
  · have HF := Lib.hid (ordN_lt h)
    go_enter Tryz.func45, Tryz.ntmps45
    go_wp2
    go_ret
    exact ⟨by rw [HF.out]; rfl, rfl⟩
  · have HF := Lib.hid (ordN_eq h)
    subst h
    go_enter Tryz.func45, Tryz.ntmps45
    go_wp2
    go_ret
    exact ⟨by rw [HF.out]; rfl, rfl⟩
  · have HF := Lib.hid (ordN_gt h)
    go_enter Tryz.func45, Tryz.ntmps45
    go_wp2
    go_ret
    exact ⟨by rw [HF.out]; rfl, rfl⟩

set_option maxRecDepth 100000 in
set_option maxHeartbeats 800000 in
theorem strcmp_any (s t : ByteArray) (w : World) :
    Calls Tryz.prog 88 #[.string s, .string t] w fun e w' => e = .returned (.int .i64 (Lib.compareBytes s.data.toList t.data.toList)) ∧ w = w' := by
  have hx : ∀ W, (callFunc 99 #[.string s, .string t]).run Tryz.prog W = .ok (.value (.int .i64 (Lib.compareBytes s.data.toList t.data.toList))) W := fun W => by
    rw [run_callFunc_extern Tryz.func99 (by kernel_rfl) (by kernel_rfl) (by kernel_rfl) (e := Extern.BytealgCompare.compare) (by kernel_rfl), Lib.run_compareString]
    rfl
  generalize Lib.compareBytes s.data.toList t.data.toList = r at hx ⊢
  go_enter Tryz.func88, Tryz.ntmps88
  go_wp2
  go_ret
  exact ⟨rfl, rfl⟩

set_option maxRecDepth 100000 in
set_option maxHeartbeats 800000 in
theorem compare_anyD (s t : ByteArray) (w : World) (hs : s.size ≤ maxLen) (ht : t.size ≤ maxLen) :
    Calls Tryz.prog 93 #[.string s, .string t] w fun e w' => e = .returned (.int .i64 (cmpNum s.data.toList t.data.toList)) ∧ BelowD w.heap.size w w' := by
  have hs' := hs
  have ht' := ht
  unfold maxLen at hs' ht'
  have HS := Lib.hid hs
  have HT := Lib.hid ht
  clear hs ht
  have LS := Lib.hid (Lib.size_eq s)
  have LT := Lib.hid (Lib.size_eq t)
  cases ha : isNum s.data.toList
  · have HF := Lib.hid (cmpNum_no (b := t.data.toList) (.inl ha))
    have HA := Lib.hid ha; clear ha
    go_enter Tryz.func93, Tryz.ntmps93
    go_wp2_with fail
    refine (is_anyD s _ HS.out).mono ?_
    rintro e w1 ⟨rfl, hb1⟩
    rw [HA.out]
    go_wp2
    go_ret
    exact ⟨by rw [HF.out]; rfl, hb1⟩
  · cases hb : isNum t.data.toList
    · have HF := Lib.hid (cmpNum_no (a := s.data.toList) (.inr hb))
      have HA := Lib.hid ha; clear ha
      have HB := Lib.hid hb; clear hb
      go_enter Tryz.func93, Tryz.ntmps93
      go_wp2_with fail
      refine (is_anyD s _ HS.out).mono ?_
      rintro e w1 ⟨rfl, hb1⟩
      rw [HA.out]
      go_wp2_with fail
      refine (is_anyD t _ HT.out).mono ?_
      rintro e w2 ⟨rfl, hb2⟩
      rw [HB.out]
      have hz1 := hb1.size
      go_wp2
      go_ret
      exact ⟨by rw [HF.out]; rfl, hb1.trans (hb2.mono hz1)⟩
    · have HF := Lib.hid (cmpNum_yes ha hb)
      have HG := Lib.hid (fun h => ordN_lt (shorter ha hb h))
      have HG2 := Lib.hid (fun h => ordN_gt (shorter hb ha h))
      have HG3 := Lib.hid (fun h => alike_val ha hb h)
      have HA := Lib.hid ha; clear ha
      have HB := Lib.hid hb; clear hb
      go_enter Tryz.func93, Tryz.ntmps93
      go_wp2_with fail
      refine (is_anyD s _ HS.out).mono ?_
      rintro e w1 ⟨rfl, hb1⟩
      rw [HA.out]
      go_wp2_with fail
      refine (is_anyD t _ HT.out).mono ?_
      rintro e w2 ⟨rfl, hb2⟩
      rw [HB.out]
      have hz1 := hb1.size
      have HBB := Lib.hid (hb1.trans (hb2.mono hz1))
      go_wp2_with fail
      refine (cmp_any _ _ _).mono ?_
      rintro e w' ⟨rfl, rfl⟩
      rcases Nat.lt_trichotomy s.size t.size with h | h | h
      · rw [ordN_lt h]
        go_wp2
        go_ret
        exact ⟨by rw [HF.out, HG.out (by rw [← LS.out, ← LT.out]; exact h)]; rfl, HBB.out⟩
      · rw [ordN_eq h]
        have H := Lib.hid h; clear h
        go_wp2_with fail
        refine (strcmp_any _ _ _).mono ?_
        rintro e w' ⟨rfl, rfl⟩
        go_wp2
        go_ret
        exact ⟨by rw [HF.out, ← HG3.out (by rw [← LS.out, ← LT.out]; exact H.out)]; rfl, HBB.out⟩
      · rw [ordN_gt h]
        go_wp2
        go_ret
        exact ⟨by rw [HF.out, HG2.out (by rw [← LS.out, ← LT.out]; exact h)]; rfl, HBB.out⟩
theorem compare_any (s t : ByteArray) (w : World) (hs : s.size ≤ maxLen) (ht : t.size ≤ maxLen) :
    Calls Tryz.prog 93 #[.string s, .string t] w fun e w' => e = .returned (.int .i64 (cmpNum s.data.toList t.data.toList)) ∧ Below w.heap.size w w' := dropD (compare_anyD s t w hs ht)
end Go.Proofs.YtdbdeadcffpbfaaGreatDoor.Num
