/-
  The document's own answer on which texts are numerals (ferruleref01.Is): the same as the program's. Condition: the text has at most 1000000 bytes.
-/
import Derived.Test.YtdbdeadcffpbfaaGreatDoorNumIs
namespace Go.Proofs.YtdbdeadcffpbfaaGreatDoor.Num
open Go.RowKit

set_option maxRecDepth 100000 in
set_option maxHeartbeats 800000 in
theorem ref_is_any (s : ByteArray) (w : World) (hs : s.size ≤ 1000000) :
    Calls Tryz.prog 71 #[.string s] w fun e w' => e = .returned (.bool (isNum s.data.toList)) ∧ w = w' := by
  have LS := Lib.hid (Lib.size_eq s)
  go_enter Tryz.func71, Tryz.ntmps71
  go_wp2
  go_loop [3] (fun t => ∃ k : Nat, k ≤ s.size ∧ t = .int .i64 k ∧ Hid (∀ j, j < k → isDig (s.data.toList.getD j 0) = true)) (fun t => s.size - (intOf t).toNat)
  case atStart => exact ⟨0, by omega, rfl, fun j h => by omega⟩
  case round =>
    obtain ⟨k, hk, rfl, HD⟩ := hrel
    by_cases hlt : k < s.size
    · have HX := Lib.hid (at_text s k hlt)
      have HI := Lib.hid (isDig_at s.data.toList k)
      have HN : Hid (¬ (48 ≤ (s[k].toNat : Int) ∧ (s[k].toNat : Int) ≤ 57) → isNum s.data.toList = false) := fun hn => (isNum_no _).2 fun hh => hn (by
        have := run_dig s.data.toList k (by rw [hh.2.1, ← LS.out]; exact hlt)
        rw [HI.out, ← HX.out] at this; exact this)
      by_cases h1 : 48 ≤ (s[k].toNat : Int)
      · by_cases h2 : (s[k].toNat : Int) ≤ 57
        · go_wp2
          go_round
          case rel =>
            refine ⟨k + 1, by omega, by go_num, fun j hj => ?_⟩
            rcases Nat.lt_or_ge j k with hj1 | hj1
            · exact HD.out j hj1
            · obtain rfl : j = k := by omega
              exact HI.out.2 (by rw [← HX.out]; exact ⟨h1, h2⟩)
          case measure => simp [intOf]; omega
        · go_wp2
          go_ret
          exact ⟨by rw [HN.out (by omega)]; rfl, rfl⟩
      · go_wp2
        go_ret
        exact ⟨by rw [HN.out (by omega)]; rfl, rfl⟩
    · obtain rfl : k = s.size := by omega
      have HR : Hid (run s.data.toList = s.data.toList.length) := run_stop _ _ (Nat.le_refl _) (by rw [← LS.out]; exact HD.out) (.inl rfl)
      by_cases hz : s.toList = [48]
      · have hb : (s.toList == [48]) = true := by rw [hz]; rfl
        have HF : Hid (isNum s.data.toList = true) := by
          rw [Lib.toList_data] at hz
          unfold Hid; rw [hz]; decide
        have HZ := Lib.hid hz; clear hz
        go_wp2
        go_ret
        exact ⟨by rw [HF.out]; rfl, rfl⟩
      · have hb : (s.toList == [48]) = false := by simpa using hz
        by_cases h0 : s.size = 0
        · have hem : s.toList.isEmpty = true := by rw [Lib.toList_data, List.isEmpty_iff_length_eq_zero, ← LS.out]; exact h0
          have hem2 : (!s.toList.isEmpty) = false := by rw [hem]; rfl
          have HF : Hid (isNum s.data.toList = false) := (isNum_no _).2 fun hh => by have := hh.1; rw [← LS.out] at this; omega
          have H0 := Lib.hid h0; clear h0
          go_wp2
          go_ret
          exact ⟨by rw [HF.out]; rfl, rfl⟩
        · have hem : s.toList.isEmpty = false := by rw [Lib.toList_data, ← Bool.not_eq_true, List.isEmpty_iff_length_eq_zero, ← LS.out]; exact h0
          have hem2 : (!s.toList.isEmpty) = true := by rw [hem]; rfl
          have HP : Hid (∀ h : 0 < s.size, isNum s.data.toList = ((s[0].toNat : Int) != 48)) := by
            intro h
            have e := at_text s 0 h
            rw [Bool.eq_iff_iff, isNum_iff, bne_iff_ne, pad_no, HR.out]
            unfold byteAt at e
            rw [e]
            constructor
            · rintro ⟨_, _, hp⟩ h48
              have h48' : (s.data.toList.getD 0 0).toNat = 48 := by omega
              by_cases h1 : 1 < s.data.toList.length
              · exact hp ⟨h1, h48'⟩
              · apply hz
                rw [Lib.toList_data]
                have hl : s.data.toList.length = 1 := by have := LS.out; omega
                obtain ⟨b, hb1⟩ := List.length_eq_one_iff.1 hl
                rw [hb1] at h48' ⊢
                have : b = 48 := UInt8.toNat_inj.1 (by simpa using h48')
                rw [this]
            · intro h48
              exact ⟨by have := LS.out; omega, rfl, fun hh => h48 (by have := hh.2; omega)⟩
          have HZ := Lib.hid hz; clear hz
          go_wp2
          go_ret
          exact ⟨by rw [HP.out (by omega)]; rfl, rfl⟩
end Go.Proofs.YtdbdeadcffpbfaaGreatDoor.Num
