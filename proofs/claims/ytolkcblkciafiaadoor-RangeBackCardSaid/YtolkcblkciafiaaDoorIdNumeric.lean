/-
  What the program's digit and numeric answer. Condition: the texts' lengths are those that the form allows.
-/
import Derived.Test.YtolkcblkciafiaaDoorIdByte
namespace Go.Proofs.YtolkcblkciafiaaDoor.Ident
open Go.RowKit Num

set_option maxRecDepth 100000 in
set_option maxHeartbeats 400000 in
theorem digit_any (x : Int) (w : World) (h0 : 0 ≤ x) (h1 : x ≤ 255) :
    Calls Tryd.prog 66 #[.int .u8 x] w fun e w' => e = .returned (.bool (digB x)) ∧ w = w' := by
  by_cases ha : 48 ≤ x
  · by_cases hb : x ≤ 57
    · have HF := Lib.hid (digB_yes ⟨ha, hb⟩)
      go_enter Tryd.func66, Tryd.ntmps66
      go_wp2
      go_ret
      exact ⟨by rw [HF.out]; rfl, rfl⟩
    · have HF := Lib.hid (digB_no (x := x) (by omega))
      go_enter Tryd.func66, Tryd.ntmps66
      go_wp2
      go_ret
      exact ⟨by rw [HF.out]; rfl, rfl⟩
  · have HF := Lib.hid (digB_no (x := x) (by omega))
    go_enter Tryd.func66, Tryd.ntmps66
    go_wp2
    go_ret
    exact ⟨by rw [HF.out]; rfl, rfl⟩
def NumcJ (w : World) (s : ByteArray) (a' : Act) (w' : World) : Prop :=
  w = w' ∧ ∃ (k : Nat) (u4 u5 u6 u7 u8 u9 u10 u11 u12 u13 u14 u15 u16 u17 u18 u19 u20 u21 u22 u23 : Value), k ≤ s.size ∧ (∀ j, j < k → isDig (s.data.toList.getD j 0) = true) ∧ a' = { tmps := #[.string s, undef, .bool false, .int .i64 k, u4, u5, u6, u7, u8, u9, u10, u11, u12, u13, u14, u15, u16, u17, u18, u19, u20, u21, u22, u23], defers := [] }
def NumcM (n : Nat) (a' : Act) (_ : World) : Nat := n - (intOf (a'.tmps.getD 3 undef)).toNat
set_option maxRecDepth 100000 in
set_option maxHeartbeats 800000 in
theorem numeric_any (s : ByteArray) (w : World) (hs : s.size ≤ maxLen) :
    Calls Tryd.prog 64 #[.string s] w fun e w' => e = .returned (.bool (numeric s.data.toList)) ∧ w = w' := by
  unfold maxLen at hs
  have HL := Lib.hid (Lib.size_eq s)
  go_enter Tryd.func64, Tryd.ntmps64
  go_wp2
  refine wp_scope_back 0 (NumcJ w s) (NumcM s.size) rfl ?_ ?_
  · rintro a' w' ⟨rfl, k, u4, u5, u6, u7, u8, u9, u10, u11, u12, u13, u14, u15, u16, u17, u18, u19, u20, u21, u22, u23, hk, hd, rfl⟩
    have HD := Lib.hid hd; clear hd
    by_cases hlt : k < s.size
    · have hbd := byteAt_bd s.data.toList k
      have HX := Lib.hid (at_text s k hlt)
      have HI : Hid (isDig (s.data.toList.getD k 0) = digB (byteAt s.data.toList k)) := (digB_at _).symm
      rw [← HX.out] at hbd HI
      obtain ⟨hx0, hx1⟩ := hbd
      go_wp2_with fail
      refine (digit_any _ _ hx0 hx1).mono ?_
      rintro e w' ⟨rfl, rfl⟩
      cases h1 : digB (s[k].toNat : Int)
      · have HS : Hid (run s.data.toList = k) := run_stop _ k (by rw [← HL.out]; omega) HD.out (.inr (by rw [HI.out]; exact h1))
        have HF : Hid (numeric s.data.toList = false) := (numeric_no _).2 fun hh => by rw [HS.out, ← HL.out] at hh; omega
        have H1 := Lib.hid h1; clear h1
        have hne : ((k : Int) == (s.size : Int)) = false := by simp; omega
        by_cases h0 : 0 < k
        · go_wp2
          simp only [Exit.jump]
          go_ret
          exact ⟨by rw [HF.out]; rfl, rfl⟩
        · go_wp2
          simp only [Exit.jump]
          go_ret
          exact ⟨by rw [HF.out]; rfl, rfl⟩
      · have HN : Hid (∀ j, j < k + 1 → isDig (s.data.toList.getD j 0) = true) := fun j hj => by
          rcases Nat.lt_or_ge j k with hj1 | hj1
          · exact HD.out j hj1
          · obtain rfl : j = k := by omega
            rw [HI.out]; exact h1
        have H1 := Lib.hid h1; clear h1
        go_wp2
        go_step3
        rw [show ((k : Int) + 1) = ((k + 1 : Nat) : Int) from rfl]
        refine ⟨rfl, ⟨rfl, k + 1, _, _, _, _, _, _, _, _, _, _, _, _, _, _, _, _, _, _, _, _, by omega, HN.out, rfl⟩, ?_⟩
        simp [NumcM, intOf]; omega
    · obtain rfl : k = s.size := by omega
      have HS : Hid (run s.data.toList = s.size) := run_stop _ s.size (by rw [← HL.out]; omega) HD.out (.inl HL.out)
      by_cases h0 : 0 < s.size
      · have HF : Hid (numeric s.data.toList = true) := (numeric_iff _).2 ⟨by rw [← HL.out]; exact h0, by rw [HS.out, HL.out]⟩
        go_wp2
        simp only [Exit.jump]
        go_ret
        exact ⟨by rw [HF.out]; rfl, rfl⟩
      · have HF : Hid (numeric s.data.toList = false) := (numeric_no _).2 fun hh => h0 (by rw [HL.out]; exact hh.1)
        go_wp2
        simp only [Exit.jump]
        go_ret
        exact ⟨by rw [HF.out]; rfl, rfl⟩
  · intro HP
    go_wp2
    go_step3
    rename_i hK
    exact hK _ _ (HP.out _ _ ⟨rfl, 0, _, _, _, _, _, _, _, _, _, _, _, _, _, _, _, _, _, _, _, _, by omega, (fun j hj => by omega), rfl⟩)
end Go.Proofs.YtolkcblkciafiaaDoor.Ident
