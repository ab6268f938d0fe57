/-
  What the program's small functions of identifiers answer: digit, letter, length, numeric, fault. Conditions: the slice reads as the list of bytes l; the texts' lengths are those that the form allows.
-/
import Derived.Test.YtolkcblkciafiaaDoorIdNumeric
namespace Go.Proofs.YtolkcblkciafiaaDoor.Ident
open Go.RowKit Num

set_option maxRecDepth 100000 in
set_option maxHeartbeats 400000 in
theorem letter_any (x : Int) (w : World) (h0 : 0 ≤ x) (h1 : x ≤ 255) :
    Calls Tryd.prog 67 #[.int .u8 x] w fun e w' => e = .returned (.bool (letB x)) ∧ w = w' := by
  by_cases ha : 65 ≤ x
  · by_cases hb : x ≤ 90
    · have HF := Lib.hid (letB_yes (.inl ⟨ha, hb⟩))
      go_enter Tryd.func67, Tryd.ntmps67
      go_wp2
      go_ret
      exact ⟨by rw [HF.out]; rfl, rfl⟩
    · by_cases hc : 97 ≤ x
      · by_cases hd : x ≤ 122
        · have HF := Lib.hid (letB_yes (.inr ⟨hc, hd⟩))
          go_enter Tryd.func67, Tryd.ntmps67
          go_wp2
          go_ret
          exact ⟨by rw [HF.out]; rfl, rfl⟩
        · have HF := Lib.hid (letB_no (x := x) (by omega))
          go_enter Tryd.func67, Tryd.ntmps67
          go_wp2
          go_ret
          exact ⟨by rw [HF.out]; rfl, rfl⟩
      · have HF := Lib.hid (letB_no (x := x) (by omega))
        go_enter Tryd.func67, Tryd.ntmps67
        go_wp2
        go_ret
        exact ⟨by rw [HF.out]; rfl, rfl⟩
  · have hc : ¬ 97 ≤ x := by omega
    have HF := Lib.hid (letB_no (x := x) (by omega))
    go_enter Tryd.func67, Tryd.ntmps67
    go_wp2
    go_ret
    exact ⟨by rw [HF.out]; rfl, rfl⟩
def LenJ (w : World) (A : Option Addr) (n c : Nat) (l : List UInt8) (a' : Act) (w' : World) : Prop :=
  w = w' ∧ ∃ (k : Nat) (u4 u5 u6 u7 u8 u9 u10 u11 u12 u13 u14 u15 u16 u17 u18 u19 u20 u21 u22 u23 u24 u25 u26 u27 u28 u29 u30 u31 : Value), k ≤ n ∧ (∀ j, j < k → isId (l.getD j 0) = true) ∧ a' = { tmps := #[.slice A n c, undef, .int .i64 0, .int .i64 k, u4, u5, u6, u7, u8, u9, u10, u11, u12, u13, u14, u15, u16, u17, u18, u19, u20, u21, u22, u23, u24, u25, u26, u27, u28, u29, u30, u31], defers := [] }
def LenM (n : Nat) (a' : Act) (_ : World) : Nat := n - (intOf (a'.tmps.getD 3 undef)).toNat
set_option maxRecDepth 100000 in
set_option maxHeartbeats 800000 in
theorem length_any (A : Option Addr) (n c : Nat) (l : List UInt8) (w : World) (h : Row w A n l) :
    Calls Tryd.prog 53 #[.slice A n c] w fun e w' => e = .returned (.int .i64 (lead l)) ∧ w = w' := by
  obtain ⟨hl, hm, hc⟩ := h
  unfold maxLen at hm
  have HC := Lib.hid hc; clear hc
  have HL := Lib.hid hl; clear hl
  go_enter Tryd.func53, Tryd.ntmps53
  go_wp2
  refine wp_scope_back 0 (LenJ w A n c l) (LenM n) rfl ?_ ?_
  · rintro a' w' ⟨rfl, k, u4, u5, u6, u7, u8, u9, u10, u11, u12, u13, u14, u15, u16, u17, u18, u19, u20, u21, u22, u23, u24, u25, u26, u27, u28, u29, u30, u31, hk, hd, rfl⟩
    have HD := Lib.hid hd; clear hd
    by_cases hlt : k < n
    · obtain ⟨b, o, rfl, hb, hcell⟩ := HC.out (by omega)
      have hx := hcell k hlt
      clear hcell HC
      have hbd := byteAt_bd l k
      have HI : Hid (isId (l.getD k 0) = idB (byteAt l k)) := (idB_at _).symm
      generalize byteAt l k = x at hx hbd HI
      obtain ⟨hx0, hx1⟩ := hbd
      have HN : Hid (idB x = true → ∀ j, j < k + 1 → isId (l.getD j 0) = true) := fun hi j hj => by
        rcases Nat.lt_or_ge j k with hj1 | hj1
        · exact HD.out j hj1
        · obtain rfl : j = k := by omega
          rw [HI.out]; exact hi
      have HS : Hid (idB x = false → lead l = k) := fun hn => lead_stop l k (by rw [HL.out]; omega) HD.out (.inr (by rw [HI.out]; exact hn))
      go_wp2_with fail
      refine (digit_any _ _ hx0 hx1).mono ?_
      rintro e w' ⟨rfl, rfl⟩
      cases h1 : digB x
      · have H1 := Lib.hid h1; clear h1
        go_wp2_with fail
        refine (letter_any _ _ hx0 hx1).mono ?_
        rintro e w' ⟨rfl, rfl⟩
        cases h2 : letB x
        · have H2 := Lib.hid h2; clear h2
          by_cases h3 : x = 45
          · have hb3 : (x == 45) = true := by simp [h3]
            have H3 := Lib.hid hb3
            have H4 := Lib.hid h3; clear h3
            go_wp2
            go_step3
            rw [show ((k : Int) + 1) = ((k + 1 : Nat) : Int) from rfl]
            refine ⟨rfl, ⟨rfl, k + 1, _, _, _, _, _, _, _, _, _, _, _, _, _, _, _, _, _, _, _, _, _, _, _, _, _, _, _, _, by omega, HN.out (by unfold idB; rw [H3.out]; simp), rfl⟩, ?_⟩
            simp [LenM, intOf]; omega
          · have hb3 : (x == 45) = false := by simp [h3]
            have H3 := Lib.hid hb3
            clear h3
            go_wp2
            simp only [Exit.jump]
            go_ret
            exact ⟨ret_int (by rw [HS.out (by unfold idB; rw [H1.out, H2.out, H3.out]; rfl)]), rfl⟩
        · have H2 := Lib.hid h2; clear h2
          go_wp2
          go_step3
          rw [show ((k : Int) + 1) = ((k + 1 : Nat) : Int) from rfl]
          refine ⟨rfl, ⟨rfl, k + 1, _, _, _, _, _, _, _, _, _, _, _, _, _, _, _, _, _, _, _, _, _, _, _, _, _, _, _, _, by omega, HN.out (by unfold idB; rw [H2.out]; simp), rfl⟩, ?_⟩
          simp [LenM, intOf]; omega
      · have H1 := Lib.hid h1; clear h1
        go_wp2
        go_step3
        rw [show ((k : Int) + 1) = ((k + 1 : Nat) : Int) from rfl]
        refine ⟨rfl, ⟨rfl, k + 1, _, _, _, _, _, _, _, _, _, _, _, _, _, _, _, _, _, _, _, _, _, _, _, _, _, _, _, _, by omega, HN.out (by unfold idB; rw [H1.out]; rfl), rfl⟩, ?_⟩
        simp [LenM, intOf]; omega
    · have HS : Hid (lead l = k) := lead_stop l k (by rw [HL.out]; omega) HD.out (.inl (by rw [HL.out]; omega))
      go_wp2
      simp only [Exit.jump]
      go_ret
      exact ⟨ret_int (by rw [HS.out]), rfl⟩
  · intro HP
    go_wp2
    go_step3
    rename_i hK
    exact hK _ _ (HP.out _ _ ⟨rfl, 0, _, _, _, _, _, _, _, _, _, _, _, _, _, _, _, _, _, _, _, _, _, _, _, _, _, _, _, _, by omega, (fun j hj => by omega), rfl⟩)
set_option maxRecDepth 100000 in
set_option maxHeartbeats 800000 in
theorem fault_any (s : ByteArray) (i : Nat) (pre : Bool) (w : World) (hs : s.size ≤ maxLen) (hi : i ≤ maxLen) :
    Calls Tryd.prog 52 #[.string s, .int .i64 i, .bool pre] w fun e w' => e = .returned (.int .i64 (fault s.data.toList i pre)) ∧ Below w.heap.size w w' := by
  have HS := Lib.hid hs
  unfold maxLen at hs hi
  have HL := Lib.hid (Lib.size_eq s)
  by_cases h0 : s.size = 0
  · have HF := Lib.hid (fault_5 (s := s.data.toList) i pre (by rw [← HL.out]; exact h0))
    have hem := (empty_iff s).2 h0
    have H0 := Lib.hid h0; clear h0
    go_enter Tryd.func52, Tryd.ntmps52
    go_wp2
    go_ret
    exact ⟨by rw [HF.out]; rfl, Below.refl _ _⟩
  · have hem := (empty_no s).2 h0
    have H0 : Hid (s.data.toList.length ≠ 0) := by unfold Hid; rw [← HL.out]; exact h0
    clear h0
    by_cases h1 : 255 < s.size
    · have HF := Lib.hid (fault_4 (s := s.data.toList) (i := i) pre H0.out (.inl (by rw [← HL.out]; exact h1)))
      go_enter Tryd.func52, Tryd.ntmps52
      go_wp2
      go_ret
      exact ⟨by rw [HF.out]; rfl, Below.refl _ _⟩
    · by_cases h2 : 16 ≤ i
      · have HF := Lib.hid (fault_4 (s := s.data.toList) (i := i) pre H0.out (.inr h2))
        go_enter Tryd.func52, Tryd.ntmps52
        go_wp2
        go_ret
        exact ⟨by rw [HF.out]; rfl, Below.refl _ _⟩
      · have H12 : Hid (¬ (255 < s.data.toList.length ∨ 16 ≤ i)) := by unfold Hid; rw [← HL.out]; omega
        cases pre
        · have HF := Lib.hid (fault_0 (s := s.data.toList) (i := i) (pre := false) H0.out H12.out (by simp))
          go_enter Tryd.func52, Tryd.ntmps52
          go_wp2
          go_ret
          exact ⟨by rw [HF.out]; rfl, Below.refl _ _⟩
        · cases h3 : numeric s.data.toList
          · have HF := Lib.hid (fault_0 (s := s.data.toList) (i := i) (pre := true) H0.out H12.out (by simp [h3]))
            have H3 := Lib.hid h3; clear h3
            go_enter Tryd.func52, Tryd.ntmps52
            go_wp2_with fail
            refine (numeric_any s _ HS.out).mono ?_
            rintro e w' ⟨rfl, rfl⟩
            rw [H3.out]
            go_wp2
            go_ret
            exact ⟨by rw [HF.out]; rfl, Below.refl _ _⟩
          · cases h4 : isNum s.data.toList
            · have HF := Lib.hid (fault_3 (s := s.data.toList) (i := i) (pre := true) H0.out H12.out ⟨rfl, h3, h4⟩)
              have H3 := Lib.hid h3; clear h3
              have H4 := Lib.hid h4; clear h4
              go_enter Tryd.func52, Tryd.ntmps52
              go_wp2_with fail
              refine (numeric_any s _ HS.out).mono ?_
              rintro e w' ⟨rfl, rfl⟩
              rw [H3.out]
              go_wp2_with fail
              refine (is_any s _ HS.out).mono ?_
              rintro e w1 ⟨rfl, hb1⟩
              rw [H4.out]
              go_wp2
              go_ret
              exact ⟨by rw [HF.out]; rfl, hb1⟩
            · have HF := Lib.hid (fault_0 (s := s.data.toList) (i := i) (pre := true) H0.out H12.out (by simp [h4]))
              have H3 := Lib.hid h3; clear h3
              have H4 := Lib.hid h4; clear h4
              go_enter Tryd.func52, Tryd.ntmps52
              go_wp2_with fail
              refine (numeric_any s _ HS.out).mono ?_
              rintro e w' ⟨rfl, rfl⟩
              rw [H3.out]
              go_wp2_with fail
              refine (is_any s _ HS.out).mono ?_
              rintro e w1 ⟨rfl, hb1⟩
              rw [H4.out]
              go_wp2
              go_ret
              exact ⟨by rw [HF.out]; rfl, hb1⟩
end Go.Proofs.YtolkcblkciafiaaDoor.Ident
