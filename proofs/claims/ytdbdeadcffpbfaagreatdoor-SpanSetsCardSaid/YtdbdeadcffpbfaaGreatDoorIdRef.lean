/-
  The document's own small functions of identifiers (ferruleref02.Byte, Numeric, wrong): the same as the program's. Conditions: the texts have at most 1000000 bytes.
-/
import Derived.Test.YtdbdeadcffpbfaaGreatDoorIdByte
import Derived.Test.YtdbdeadcffpbfaaGreatDoorNumRefIs
namespace Go.Proofs.YtdbdeadcffpbfaaGreatDoor.Ident
open Go.RowKit Num

theorem idB_yes1 {x : Int} (h : 48 ≤ x ∧ x ≤ 57) : idB x = true := by unfold idB; rw [digB_yes h]; rfl
theorem idB_yes2 {x : Int} (h : (65 ≤ x ∧ x ≤ 90) ∨ (97 ≤ x ∧ x ≤ 122)) : idB x = true := by unfold idB; rw [letB_yes h]; simp
theorem idB_yes3 : idB 45 = true := by decide
theorem idB_no {x : Int} (h1 : ¬ (48 ≤ x ∧ x ≤ 57)) (h2 : ¬ ((65 ≤ x ∧ x ≤ 90) ∨ (97 ≤ x ∧ x ≤ 122))) (h3 : x ≠ 45) : idB x = false := by
  unfold idB; rw [digB_no h1, letB_no h2]; simp [h3]

set_option maxRecDepth 100000 in
set_option maxHeartbeats 800000 in
theorem ref_byte_any (x : Int) (w : World) (h0 : 0 ≤ x) (h1 : x ≤ 255) :
    Calls Tryz.prog 54 #[.int .u8 x] w fun e w' => e = .returned (.bool (idB x)) ∧ w = w' := by
  by_cases ha : 48 ≤ x
  · by_cases hb : x ≤ 57
    · have HF := Lib.hid (idB_yes1 ⟨ha, hb⟩)
      go_enter Tryz.func54, Tryz.ntmps54
      go_wp2
      go_ret
      exact ⟨by rw [HF.out]; rfl, rfl⟩
    · have h45 : (x == 45) = false := by simp; omega
      by_cases hc : 65 ≤ x
      · by_cases hd : x ≤ 90
        · have HF := Lib.hid (idB_yes2 (.inl ⟨hc, hd⟩))
          go_enter Tryz.func54, Tryz.ntmps54
          go_wp2
          go_ret
          exact ⟨by rw [HF.out]; rfl, rfl⟩
        · by_cases he : 97 ≤ x
          · by_cases hf : x ≤ 122
            · have HF := Lib.hid (idB_yes2 (.inr ⟨he, hf⟩))
              go_enter Tryz.func54, Tryz.ntmps54
              go_wp2
              go_ret
              exact ⟨by rw [HF.out]; rfl, rfl⟩
            · have HF := Lib.hid (idB_no (x := x) (by omega) (by omega) (by omega))
              go_enter Tryz.func54, Tryz.ntmps54
              go_wp2
              go_ret
              exact ⟨by rw [HF.out]; rfl, rfl⟩
          · have HF := Lib.hid (idB_no (x := x) (by omega) (by omega) (by omega))
            go_enter Tryz.func54, Tryz.ntmps54
            go_wp2
            go_ret
            exact ⟨by rw [HF.out]; rfl, rfl⟩
      · have he : ¬ 97 ≤ x := by omega
        have HF := Lib.hid (idB_no (x := x) (by omega) (by omega) (by omega))
        go_enter Tryz.func54, Tryz.ntmps54
        go_wp2
        go_ret
        exact ⟨by rw [HF.out]; rfl, rfl⟩
  · have hc : ¬ 65 ≤ x := by omega
    have he : ¬ 97 ≤ x := by omega
    by_cases h45 : x = 45
    · subst h45
      have HF := Lib.hid idB_yes3
      clear ha hc he h0 h1
      go_enter Tryz.func54, Tryz.ntmps54
      go_wp2
      go_ret
      exact ⟨by rw [HF.out]; rfl, rfl⟩
    · have HF := Lib.hid (idB_no (x := x) (by omega) (by omega) h45)
      have hb45 : (x == 45) = false := by simp [h45]
      clear h45
      go_enter Tryz.func54, Tryz.ntmps54
      go_wp2
      go_ret
      exact ⟨by rw [HF.out]; rfl, rfl⟩

set_option maxRecDepth 100000 in
set_option maxHeartbeats 800000 in
theorem ref_numeric_any (s : ByteArray) (w : World) (hs : s.size ≤ 1000000) :
    Calls Tryz.prog 58 #[.string s] w fun e w' => e = .returned (.bool (numeric s.data.toList)) ∧ w = w' := by
  have LS := Lib.hid (Lib.size_eq s)
  go_enter Tryz.func58, Tryz.ntmps58
  go_wp2
  go_loop [3] (fun t => ∃ k : Nat, k ≤ s.size ∧ t = .int .i64 k ∧ Hid (∀ j, j < k → isDig (s.data.toList.getD j 0) = true)) (fun t => s.size - (intOf t).toNat)
  case atStart => exact ⟨0, by omega, rfl, fun j h => by omega⟩
  case round =>
    obtain ⟨k, hk, rfl, HD⟩ := hrel
    by_cases hlt : k < s.size
    · have HX := Lib.hid (at_text s k hlt)
      have HI := Lib.hid (isDig_at s.data.toList k)
      have HN : Hid (¬ (48 ≤ (s[k].toNat : Int) ∧ (s[k].toNat : Int) ≤ 57) → numeric s.data.toList = false) := fun hn => (numeric_no _).2 fun hh => hn (by
        have := run_dig s.data.toList k (by rw [hh.2, ← LS.out]; exact hlt)
        rw [HI.out, ← HX.out] at this; exact this)
      by_cases h1 : 48 ≤ (s[k].toNat : Int)
      · by_cases h2 : (s[k].toNat : Int) ≤ 57
        · go_wp2
          go_round
          case rel =>
            refine ⟨k + 1, by omega, by go_num, fun j hj => ?_⟩
            rcases Nat.lt_or_ge j k with hj1 | hj1
            · exact HD.out j hj1
            · obtain rfl : j = k := by omega
              exact HI.out.2 (by rw [← HX.out]; exact ⟨h1, h2⟩)
          case measure => simp [intOf]; omega
        · go_wp2
          go_ret
          exact ⟨by rw [HN.out (by omega)]; rfl, rfl⟩
      · go_wp2
        go_ret
        exact ⟨by rw [HN.out (by omega)]; rfl, rfl⟩
    · obtain rfl : k = s.size := by omega
      have HR : Hid (run s.data.toList = s.data.toList.length) := run_stop _ _ (Nat.le_refl _) (by rw [← LS.out]; exact HD.out) (.inl rfl)
      by_cases h0 : s.size = 0
      · have hem := (empty_iff s).2 h0
        have hem2 : (!s.toList.isEmpty) = false := by rw [hem]; rfl
        have HF : Hid (numeric s.data.toList = false) := (numeric_no _).2 fun hh => by have := hh.1; rw [← LS.out] at this; omega
        have H0 := Lib.hid h0; clear h0
        go_wp2
        go_ret
        exact ⟨by rw [HF.out]; rfl, rfl⟩
      · have hem := (empty_no s).2 h0
        have hem2 : (!s.toList.isEmpty) = true := by rw [hem]; rfl
        have HF : Hid (numeric s.data.toList = true) := (numeric_iff _).2 ⟨by rw [← LS.out]; omega, HR.out⟩
        go_wp2
        go_ret
        exact ⟨by rw [HF.out]; rfl, rfl⟩

set_option maxRecDepth 100000 in
set_option maxHeartbeats 800000 in
theorem wrong_all (s : ByteArray) (i : Nat) (pre : Bool) (w : World) (hs : s.size ≤ maxLen) (hi : i ≤ maxLen) :
    Calls Tryz.prog 53 #[.string s, .int .i64 i, .bool pre] w fun e w' => e = .returned (.int .i64 (fault s.data.toList i pre)) ∧ w = w' := by
  unfold maxLen at hs hi
  have HL := Lib.hid (Lib.size_eq s)
  by_cases h0 : s.size = 0
  · have HF := Lib.hid (fault_5 (s := s.data.toList) i pre (by rw [← HL.out]; exact h0))
    have hem := (empty_iff s).2 h0
    have H0 := Lib.hid h0; clear h0
    go_enter Tryz.func53, Tryz.ntmps53
    go_wp2
    go_ret
    exact ⟨by rw [HF.out]; rfl, rfl⟩
  · have hem := (empty_no s).2 h0
    have H0 : Hid (s.data.toList.length ≠ 0) := by unfold Hid; rw [← HL.out]; exact h0
    clear h0
    by_cases h1 : 255 < s.size
    · have HF := Lib.hid (fault_4 (s := s.data.toList) (i := i) pre H0.out (.inl (by rw [← HL.out]; exact h1)))
      go_enter Tryz.func53, Tryz.ntmps53
      go_wp2
      go_ret
      exact ⟨by rw [HF.out]; rfl, rfl⟩
    · have HS : Hid (s.size ≤ 1000000) := by unfold Hid; omega
      by_cases h2 : 15 < i
      · have HF := Lib.hid (fault_4 (s := s.data.toList) (i := i) pre H0.out (.inr h2))
        go_enter Tryz.func53, Tryz.ntmps53
        go_wp2
        go_ret
        exact ⟨by rw [HF.out]; rfl, rfl⟩
      · have H12 : Hid (¬ (255 < s.data.toList.length ∨ 16 ≤ i)) := by unfold Hid; rw [← HL.out]; omega
        cases pre
        · have HF := Lib.hid (fault_0 (s := s.data.toList) (i := i) (pre := false) H0.out H12.out (by simp))
          go_enter Tryz.func53, Tryz.ntmps53
          go_wp2
          go_ret
          exact ⟨by rw [HF.out]; rfl, rfl⟩
        · cases h3 : numeric s.data.toList
          · have HF := Lib.hid (fault_0 (s := s.data.toList) (i := i) (pre := true) H0.out H12.out (by simp [h3]))
            have H3 := Lib.hid h3; clear h3
            go_enter Tryz.func53, Tryz.ntmps53
            go_wp2_with fail
            refine (ref_numeric_any s _ HS.out).mono ?_
            rintro e w' ⟨rfl, rfl⟩
            rw [H3.out]
            go_wp2
            go_ret
            exact ⟨by rw [HF.out]; rfl, rfl⟩
          · have HF : Hid (fault s.data.toList i true = if isNum s.data.toList = true then 0 else 3) := by
              unfold Hid
              cases h4 : isNum s.data.toList
              · exact fault_3 H0.out H12.out ⟨rfl, h3, h4⟩
              · exact fault_0 H0.out H12.out (by simp [h4])
            have H3 := Lib.hid h3; clear h3
            cases h4 : isNum s.data.toList
            · have H4 := Lib.hid h4; clear h4
              go_enter Tryz.func53, Tryz.ntmps53
              go_wp2_with fail
              refine (ref_numeric_any s _ HS.out).mono ?_
              rintro e w' ⟨rfl, rfl⟩
              rw [H3.out]
              go_wp2_with fail
              refine (ref_is_any s _ HS.out).mono ?_
              rintro e w1 ⟨rfl, rfl⟩
              rw [H4.out]
              go_wp2
              go_ret
              exact ⟨by rw [HF.out, H4.out]; rfl, rfl⟩
            · have H4 := Lib.hid h4; clear h4
              go_enter Tryz.func53, Tryz.ntmps53
              go_wp2_with fail
              refine (ref_numeric_any s _ HS.out).mono ?_
              rintro e w' ⟨rfl, rfl⟩
              rw [H3.out]
              go_wp2_with fail
              refine (ref_is_any s _ HS.out).mono ?_
              rintro e w1 ⟨rfl, rfl⟩
              rw [H4.out]
              go_wp2
              go_ret
              exact ⟨by rw [HF.out, H4.out]; rfl, rfl⟩

theorem wrong_any (s : ByteArray) (i : Nat) (pre : Bool) (w : World) (hs : s.size ≤ 1000000) (hi : i ≤ maxLen) :
    Calls Tryz.prog 53 #[.string s, .int .i64 i, .bool pre] w fun e w' => e = .returned (.int .i64 (fault s.data.toList i pre)) ∧ w = w' :=
  wrong_all s i pre w (Nat.le_trans hs (by unfold maxLen; omega)) hi
end Go.Proofs.YtdbdeadcffpbfaaGreatDoor.Ident
