/-
  How many digits a slice of bytes begins with (num.digits), and whether they begin with a 0 that isn't alone (num.padded). Condition: the slice reads as the list of bytes l.
-/
import Derived.Test.YtolkcblkciafiaaDoorNumMem
namespace Go.Proofs.YtolkcblkciafiaaDoor.Num
open Go.RowKit
def DigJ (w : World) (A : Option Addr) (n c : Nat) (l : List UInt8) (a' : Act) (w' : World) : Prop :=
  w = w' ∧ ∃ (k : Nat) (u4 u5 u6 u7 u8 u9 u10 u11 u12 u13 u14 u15 u16 u17 u18 u19 u20 u21 u22 u23 u24 : Value), k ≤ n ∧ (∀ j, j < k → isDig (l.getD j 0) = true) ∧ a' = { tmps := #[.slice A n c, undef, .int .i64 0, .int .i64 k, u4, u5, u6, u7, u8, u9, u10, u11, u12, u13, u14, u15, u16, u17, u18, u19, u20, u21, u22, u23, u24], defers := [] }
def DigM (n : Nat) (a' : Act) (_ : World) : Nat := n - (intOf (a'.tmps.getD 3 undef)).toNat

set_option maxRecDepth 100000 in
set_option maxHeartbeats 400000 in
theorem digits_any (A : Option Addr) (n c : Nat) (l : List UInt8) (w : World) (h : Row w A n l) :
    Calls Tryd.prog 77 #[.slice A n c] w fun e w' => e = .returned (.int .i64 (run l)) ∧ w = w' := by
  obtain ⟨hl, hm, hc⟩ := h
  unfold maxLen at hm
  have HC := Lib.hid hc; clear hc
  have HL := Lib.hid hl; clear hl
  go_enter Tryd.func77, Tryd.ntmps77
  go_wp2
  refine wp_scope_back 0 (DigJ w A n c l) (DigM n) rfl ?_ ?_
  · rintro a' w' ⟨rfl, k, u4, u5, u6, u7, u8, u9, u10, u11, u12, u13, u14, u15, u16, u17, u18, u19, u20, u21, u22, u23, u24, hk, hd, rfl⟩
    have HD := Lib.hid hd; clear hd
    by_cases hlt : k < n
    · obtain ⟨b, o, rfl, hb, hcell⟩ := HC.out (by omega)
      have hx := hcell k hlt
      clear hcell HC
      have hbd := byteAt_bd l k
      have HI := Lib.hid (isDig_at l k)
      generalize byteAt l k = x at hx hbd HI
      have HS : Hid (¬ (48 ≤ x ∧ x ≤ 57) → run l = k) := fun hn => run_stop l k (by rw [HL.out]; omega) HD.out (.inr (by rw [← HI.out] at hn; simpa using hn))
      by_cases h1 : 48 ≤ x
      · by_cases h2 : x ≤ 57
        · go_wp2
          go_step3
          rw [show ((k : Int) + 1) = ((k + 1 : Nat) : Int) from rfl]
          refine ⟨rfl, ⟨rfl, k + 1, _, _, _, _, _, _, _, _, _, _, _, _, _, _, _, _, _, _, _, _, _, by omega, ?_, rfl⟩, ?_⟩
          · intro j hj
            rcases Nat.lt_or_ge j k with hj1 | hj1
            · exact HD.out j hj1
            · obtain rfl : j = k := by omega
              exact HI.out.2 ⟨h1, h2⟩
          · simp [DigM, intOf]; omega
        · go_wp2
          simp only [Exit.jump]
          go_ret
          exact ⟨ret_int (by rw [HS.out (by omega)]), rfl⟩
      · go_wp2
        simp only [Exit.jump]
        go_ret
        exact ⟨ret_int (by rw [HS.out (by omega)]), rfl⟩
    · have HS : Hid (run l = k) := run_stop l k (by rw [HL.out]; omega) HD.out (.inl (by rw [HL.out]; omega))
      go_wp2
      simp only [Exit.jump]
      go_ret
      exact ⟨ret_int (by rw [HS.out]), rfl⟩
  · intro HP
    go_wp2
    go_step3
    rename_i hK
    exact hK _ _ (HP.out _ _ ⟨rfl, 0, _, _, _, _, _, _, _, _, _, _, _, _, _, _, _, _, _, _, _, _, _, by omega, (fun j hj => by omega), rfl⟩)

set_option maxRecDepth 100000 in
set_option maxHeartbeats 400000 in
theorem padded_any (A : Option Addr) (n c : Nat) (l : List UInt8) (w : World) (h : Row w A n l) :
    Calls Tryd.prog 78 #[.slice A n c] w fun e w' => e = .returned (.bool (pad l)) ∧ w = w' := by
  obtain ⟨hl, hm, hc⟩ := h
  unfold maxLen at hm
  by_cases hlt : 1 < n
  · obtain ⟨b, o, rfl, hb, hcell⟩ := hc (by omega)
    have hx := hcell 0 (by omega)
    simp only [Nat.add_zero] at hx
    have HI : Hid (byteAt l 0 = 48 ↔ (l.getD 0 0).toNat = 48) := by unfold Hid byteAt; omega
    have HL := Lib.hid hl
    clear hcell hc hl
    generalize byteAt l 0 = x at hx HI
    by_cases h48 : x = 48
    · have HF : Hid (pad l = true) := (pad_iff l).2 ⟨by rw [HL.out]; exact hlt, HI.out.1 h48⟩
      have hb1 : (x == 48) = true := by simp [h48]
      have H48 := Lib.hid h48; clear h48
      go_enter Tryd.func78, Tryd.ntmps78
      go_wp2
      go_ret
      exact ⟨by rw [HF.out]; rfl, rfl⟩
    · have HF : Hid (pad l = false) := (pad_no l).2 fun hh => h48 (HI.out.2 hh.2)
      have hb1 : (x == 48) = false := by simp [h48]
      go_enter Tryd.func78, Tryd.ntmps78
      go_wp2
      go_ret
      exact ⟨by rw [HF.out]; rfl, rfl⟩
  · have HF : Hid (pad l = false) := (pad_no l).2 fun hh => hlt (by rw [← hl]; exact hh.1)
    clear hc hl
    go_enter Tryd.func78, Tryd.ntmps78
    go_wp2
    go_ret
    exact ⟨by rw [HF.out]; rfl, rfl⟩

end Go.Proofs.YtolkcblkciafiaaDoor.Num
