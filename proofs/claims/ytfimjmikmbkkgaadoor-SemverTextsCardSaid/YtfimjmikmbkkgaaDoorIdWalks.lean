/-
  What the program's small functions of identifiers answer: digit, letter, length, numeric, fault. Conditions: the slice reads as the list of bytes l; the texts' lengths are those that the form allows.
-/
import Derived.Test.YtfimjmikmbkkgaaDoorIdMath
namespace Go.Proofs.YtfimjmikmbkkgaaDoor.Ident
open Go.RowKit Num

def digB (x : Int) : Bool := decide (48 ≤ x ∧ x ≤ 57)
def letB (x : Int) : Bool := decide ((65 ≤ x ∧ x ≤ 90) ∨ (97 ≤ x ∧ x ≤ 122))
theorem digB_yes {x : Int} (h : 48 ≤ x ∧ x ≤ 57) : digB x = true := decide_eq_true h
theorem digB_no {x : Int} (h : ¬ (48 ≤ x ∧ x ≤ 57)) : digB x = false := decide_eq_false h
theorem letB_yes {x : Int} (h : (65 ≤ x ∧ x ≤ 90) ∨ (97 ≤ x ∧ x ≤ 122)) : letB x = true := decide_eq_true h
theorem letB_no {x : Int} (h : ¬ ((65 ≤ x ∧ x ≤ 90) ∨ (97 ≤ x ∧ x ≤ 122))) : letB x = false := decide_eq_false h
theorem digB_at (b : UInt8) : digB (b.toNat : Int) = isDig b := by
  rw [Bool.eq_iff_iff, isDig_iff]; unfold digB; rw [decide_eq_true_eq]; omega
theorem letB_at (b : UInt8) : letB (b.toNat : Int) = isLet b := by
  rw [Bool.eq_iff_iff, isLet_iff]; unfold letB; rw [decide_eq_true_eq]; omega
/-- Is this number an identifier's byte? -/
def idB (x : Int) : Bool := digB x || letB x || x == 45
theorem idB_at (b : UInt8) : idB (b.toNat : Int) = isId b := by
  unfold idB isId; rw [digB_at, letB_at]; congr 1; rw [Bool.eq_iff_iff]; simp; omega

set_option maxHeartbeats 400000 in
theorem digit_any (x : Int) (w : World) (h0 : 0 ≤ x) (h1 : x ≤ 255) :
    Calls Tryd.prog 42 #[.int .u8 x] w fun e w' => e = .returned (.bool (digB x)) ∧ w = w' := by
  by_cases ha : 48 ≤ x
  · by_cases hb : x ≤ 57
    · have HF := Lib.hid (digB_yes ⟨ha, hb⟩)
      go_enter Tryd.func42, Tryd.ntmps42
      go_wp2
      go_ret
      exact ⟨by rw [HF.out]; rfl, rfl⟩
    · have HF := Lib.hid (digB_no (x := x) (by omega))
      go_enter Tryd.func42, Tryd.ntmps42
      go_wp2
      go_ret
      exact ⟨by rw [HF.out]; rfl, rfl⟩
  · have HF := Lib.hid (digB_no (x := x) (by omega))
    go_enter Tryd.func42, Tryd.ntmps42
    go_wp2
    go_ret
    exact ⟨by rw [HF.out]; rfl, rfl⟩

set_option maxHeartbeats 400000 in
theorem letter_any (x : Int) (w : World) (h0 : 0 ≤ x) (h1 : x ≤ 255) :
    Calls Tryd.prog 43 #[.int .u8 x] w fun e w' => e = .returned (.bool (letB x)) ∧ w = w' := by
  by_cases ha : 65 ≤ x
  · by_cases hb : x ≤ 90
    · have HF := Lib.hid (letB_yes (.inl ⟨ha, hb⟩))
      go_enter Tryd.func43, Tryd.ntmps43
      go_wp2
      go_ret
      exact ⟨by rw [HF.out]; rfl, rfl⟩
    · by_cases hc : 97 ≤ x
      · by_cases hd : x ≤ 122
        · have HF := Lib.hid (letB_yes (.inr ⟨hc, hd⟩))
          go_enter Tryd.func43, Tryd.ntmps43
          go_wp2
          go_ret
          exact ⟨by rw [HF.out]; rfl, rfl⟩
        · have HF := Lib.hid (letB_no (x := x) (by omega))
          go_enter Tryd.func43, Tryd.ntmps43
          go_wp2
          go_ret
          exact ⟨by rw [HF.out]; rfl, rfl⟩
      · have HF := Lib.hid (letB_no (x := x) (by omega))
        go_enter Tryd.func43, Tryd.ntmps43
        go_wp2
        go_ret
        exact ⟨by rw [HF.out]; rfl, rfl⟩
  · have hc : ¬ 97 ≤ x := by omega
    have HF := Lib.hid (letB_no (x := x) (by omega))
    go_enter Tryd.func43, Tryd.ntmps43
    go_wp2
    go_ret
    exact ⟨by rw [HF.out]; rfl, rfl⟩

def LenJ (w : World) (A : Option Addr) (n c : Nat) (l : List UInt8) (a' : Act) (w' : World) : Prop :=
  w = w' ∧ ∃ (k : Nat) (u4 u5 u6 u7 u8 u9 u10 u11 u12 u13 u14 u15 u16 u17 u18 u19 u20 u21 u22 u23 u24 u25 u26 u27 u28 u29 u30 u31 : Value), k ≤ n ∧ (∀ j, j < k → isId (l.getD j 0) = true) ∧ a' = { tmps := #[.slice A n c, undef, .int .i64 0, .int .i64 k, u4, u5, u6, u7, u8, u9, u10, u11, u12, u13, u14, u15, u16, u17, u18, u19, u20, u21, u22, u23, u24, u25, u26, u27, u28, u29, u30, u31], defers := [] }
def LenM (n : Nat) (a' : Act) (_ : World) : Nat := n - (intOf (a'.tmps.getD 3 undef)).toNat

set_option maxHeartbeats 800000 in
theorem length_any (A : Option Addr) (n c : Nat) (l : List UInt8) (w : World) (h : Row w A n l) :
    Calls Tryd.prog 32 #[.slice A n c] w fun e w' => e = .returned (.int .i64 (lead l)) ∧ w = w' := by
  obtain ⟨hl, hm, hc⟩ := h
  unfold maxLen at hm
  have HC := Lib.hid hc; clear hc
  have HL := Lib.hid hl; clear hl
  go_enter Tryd.func32, Tryd.ntmps32
  go_wp2
  refine wp_scope_back 0 (LenJ w A n c l) (LenM n) rfl ?_ ?_
  · rintro a' w' ⟨rfl, k, u4, u5, u6, u7, u8, u9, u10, u11, u12, u13, u14, u15, u16, u17, u18, u19, u20, u21, u22, u23, u24, u25, u26, u27, u28, u29, u30, u31, hk, hd, rfl⟩
    have HD := Lib.hid hd; clear hd
    by_cases hlt : k < n
    · obtain ⟨b, o, rfl, hb, hcell⟩ := HC.out (by omega)
      have hx := hcell k hlt
      clear hcell HC
      have hbd := byteAt_bd l k
      have HI : Hid (isId (l.getD k 0) = idB (byteAt l k)) := (idB_at _).symm
      generalize byteAt l k = x at hx hbd HI
      obtain ⟨hx0, hx1⟩ := hbd
      have HN : Hid (idB x = true → ∀ j, j < k + 1 → isId (l.getD j 0) = true) := fun hi j hj => by
        rcases Nat.lt_or_ge j k with hj1 | hj1
        · exact HD.out j hj1
        · obtain rfl : j = k := by omega
          rw [HI.out]; exact hi
      have HS : Hid (idB x = false → lead l = k) := fun hn => lead_stop l k (by rw [HL.out]; omega) HD.out (.inr (by rw [HI.out]; exact hn))
      go_wp2_with fail
      refine (digit_any _ _ hx0 hx1).mono ?_
      rintro e w' ⟨rfl, rfl⟩
      cases h1 : digB x
      · have H1 := Lib.hid h1; clear h1
        go_wp2_with fail
        refine (letter_any _ _ hx0 hx1).mono ?_
        rintro e w' ⟨rfl, rfl⟩
        cases h2 : letB x
        · have H2 := Lib.hid h2; clear h2
          by_cases h3 : x = 45
          · have hb3 : (x == 45) = true := by simp [h3]
            have H3 := Lib.hid hb3
            have H4 := Lib.hid h3; clear h3
            go_wp2
            go_step3
            rw [show ((k : Int) + 1) = ((k + 1 : Nat) : Int) from rfl]
            refine ⟨rfl, ⟨rfl, k + 1, _, _, _, _, _, _, _, _, _, _, _, _, _, _, _, _, _, _, _, _, _, _, _, _, _, _, _, _, by omega, HN.out (by unfold idB; rw [H3.out]; simp), rfl⟩, ?_⟩
            simp [LenM, intOf]; omega
          · have hb3 : (x == 45) = false := by simp [h3]
            have H3 := Lib.hid hb3
            clear h3
            go_wp2
            simp only [Exit.jump]
            go_ret
            exact ⟨ret_int (by rw [HS.out (by unfold idB; rw [H1.out, H2.out, H3.out]; rfl)]), rfl⟩
        · have H2 := Lib.hid h2; clear h2
          go_wp2
          go_step3
          rw [show ((k : Int) + 1) = ((k + 1 : Nat) : Int) from rfl]
          refine ⟨rfl, ⟨rfl, k + 1, _, _, _, _, _, _, _, _, _, _, _, _, _, _, _, _, _, _, _, _, _, _, _, _, _, _, _, _, by omega, HN.out (by unfold idB; rw [H2.out]; simp), rfl⟩, ?_⟩
          simp [LenM, intOf]; omega
      · have H1 := Lib.hid h1; clear h1
        go_wp2
        go_step3
        rw [show ((k : Int) + 1) = ((k + 1 : Nat) : Int) from rfl]
        refine ⟨rfl, ⟨rfl, k + 1, _, _, _, _, _, _, _, _, _, _, _, _, _, _, _, _, _, _, _, _, _, _, _, _, _, _, _, _, by omega, HN.out (by unfold idB; rw [H1.out]; rfl), rfl⟩, ?_⟩
        simp [LenM, intOf]; omega
    · have HS : Hid (lead l = k) := lead_stop l k (by rw [HL.out]; omega) HD.out (.inl (by rw [HL.out]; omega))
      go_wp2
      simp only [Exit.jump]
      go_ret
      exact ⟨ret_int (by rw [HS.out]), rfl⟩
  · intro HP
    go_wp2
    go_step3
    rename_i hK
    exact hK _ _ (HP.out _ _ ⟨rfl, 0, _, _, _, _, _, _, _, _, _, _, _, _, _, _, _, _, _, _, _, _, _, _, _, _, _, _, _, _, by omega, (fun j hj => by omega), rfl⟩)

def NumcJ (w : World) (s : ByteArray) (a' : Act) (w' : World) : Prop :=
  w = w' ∧ ∃ (k : Nat) (u4 u5 u6 u7 u8 u9 u10 u11 u12 u13 u14 u15 u16 u17 u18 u19 u20 u21 u22 u23 : Value), k ≤ s.size ∧ (∀ j, j < k → isDig (s.data.toList.getD j 0) = true) ∧ a' = { tmps := #[.string s, undef, .bool false, .int .i64 k, u4, u5, u6, u7, u8, u9, u10, u11, u12, u13, u14, u15, u16, u17, u18, u19, u20, u21, u22, u23], defers := [] }
def NumcM (n : Nat) (a' : Act) (_ : World) : Nat := n - (intOf (a'.tmps.getD 3 undef)).toNat

set_option maxHeartbeats 800000 in
theorem numeric_any (s : ByteArray) (w : World) (hs : s.size ≤ maxLen) :
    Calls Tryd.prog 40 #[.string s] w fun e w' => e = .returned (.bool (numeric s.data.toList)) ∧ w = w' := by
  unfold maxLen at hs
  have HL := Lib.hid (Lib.size_eq s)
  go_enter Tryd.func40, Tryd.ntmps40
  go_wp2
  refine wp_scope_back 0 (NumcJ w s) (NumcM s.size) rfl ?_ ?_
  · rintro a' w' ⟨rfl, k, u4, u5, u6, u7, u8, u9, u10, u11, u12, u13, u14, u15, u16, u17, u18, u19, u20, u21, u22, u23, hk, hd, rfl⟩
    have HD := Lib.hid hd; clear hd
    by_cases hlt : k < s.size
    · have hbd := byteAt_bd s.data.toList k
      have HX := Lib.hid (at_text s k hlt)
      have HI : Hid (isDig (s.data.toList.getD k 0) = digB (byteAt s.data.toList k)) := (digB_at _).symm
      rw [← HX.out] at hbd HI
      obtain ⟨hx0, hx1⟩ := hbd
      go_wp2_with fail
      refine (digit_any _ _ hx0 hx1).mono ?_
      rintro e w' ⟨rfl, rfl⟩
      cases h1 : digB (s[k].toNat : Int)
      · have HS : Hid (run s.data.toList = k) := run_stop _ k (by rw [← HL.out]; omega) HD.out (.inr (by rw [HI.out]; exact h1))
        have HF : Hid (numeric s.data.toList = false) := (numeric_no _).2 fun hh => by rw [HS.out, ← HL.out] at hh; omega
        have H1 := Lib.hid h1; clear h1
        have hne : ((k : Int) == (s.size : Int)) = false := by simp; omega
        by_cases h0 : 0 < k
        · go_wp2
          simp only [Exit.jump]
          go_ret
          exact ⟨by rw [HF.out]; rfl, rfl⟩
        · go_wp2
          simp only [Exit.jump]
          go_ret
          exact ⟨by rw [HF.out]; rfl, rfl⟩
      · have HN : Hid (∀ j, j < k + 1 → isDig (s.data.toList.getD j 0) = true) := fun j hj => by
          rcases Nat.lt_or_ge j k with hj1 | hj1
          · exact HD.out j hj1
          · obtain rfl : j = k := by omega
            rw [HI.out]; exact h1
        have H1 := Lib.hid h1; clear h1
        go_wp2
        go_step3
        rw [show ((k : Int) + 1) = ((k + 1 : Nat) : Int) from rfl]
        refine ⟨rfl, ⟨rfl, k + 1, _, _, _, _, _, _, _, _, _, _, _, _, _, _, _, _, _, _, _, _, by omega, HN.out, rfl⟩, ?_⟩
        simp [NumcM, intOf]; omega
    · obtain rfl : k = s.size := by omega
      have HS : Hid (run s.data.toList = s.size) := run_stop _ s.size (by rw [← HL.out]; omega) HD.out (.inl HL.out)
      by_cases h0 : 0 < s.size
      · have HF : Hid (numeric s.data.toList = true) := (numeric_iff _).2 ⟨by rw [← HL.out]; exact h0, by rw [HS.out, HL.out]⟩
        go_wp2
        simp only [Exit.jump]
        go_ret
        exact ⟨by rw [HF.out]; rfl, rfl⟩
      · have HF : Hid (numeric s.data.toList = false) := (numeric_no _).2 fun hh => h0 (by rw [HL.out]; exact hh.1)
        go_wp2
        simp only [Exit.jump]
        go_ret
        exact ⟨by rw [HF.out]; rfl, rfl⟩
  · intro HP
    go_wp2
    go_step3
    rename_i hK
    exact hK _ _ (HP.out _ _ ⟨rfl, 0, _, _, _, _, _, _, _, _, _, _, _, _, _, _, _, _, _, _, _, _, by omega, (fun j hj => by omega), rfl⟩)

theorem fault_5 {s : List UInt8} (i : Nat) (pre : Bool) (h : s.length = 0) : fault s i pre = 5 := by unfold fault; rw [if_pos h]
theorem fault_4 {s : List UInt8} {i : Nat} (pre : Bool) (h0 : s.length ≠ 0) (h : 255 < s.length ∨ 16 ≤ i) : fault s i pre = 4 := by unfold fault; rw [if_neg h0, if_pos h]
theorem fault_3 {s : List UInt8} {i : Nat} {pre : Bool} (h0 : s.length ≠ 0) (h1 : ¬ (255 < s.length ∨ 16 ≤ i)) (h : pre = true ∧ numeric s = true ∧ isNum s = false) : fault s i pre = 3 := by
  unfold fault; rw [if_neg h0, if_neg h1, if_pos h]
theorem fault_0 {s : List UInt8} {i : Nat} {pre : Bool} (h0 : s.length ≠ 0) (h1 : ¬ (255 < s.length ∨ 16 ≤ i)) (h : ¬ (pre = true ∧ numeric s = true ∧ isNum s = false)) : fault s i pre = 0 := by
  unfold fault; rw [if_neg h0, if_neg h1, if_neg h]

theorem empty_iff (s : ByteArray) : s.toList.isEmpty = true ↔ s.size = 0 := by
  rw [Lib.toList_data, List.isEmpty_iff_length_eq_zero, ← Lib.size_eq]
theorem empty_no (s : ByteArray) : s.toList.isEmpty = false ↔ s.size ≠ 0 := by
  rw [← Bool.not_eq_true, empty_iff]

set_option maxHeartbeats 800000 in
theorem fault_any (s : ByteArray) (i : Nat) (pre : Bool) (w : World) (hs : s.size ≤ maxLen) (hi : i ≤ maxLen) :
    Calls Tryd.prog 31 #[.string s, .int .i64 i, .bool pre] w fun e w' => e = .returned (.int .i64 (fault s.data.toList i pre)) ∧ Below w.heap.size w w' := by
  have HS := Lib.hid hs
  unfold maxLen at hs hi
  have HL := Lib.hid (Lib.size_eq s)
  by_cases h0 : s.size = 0
  · have HF := Lib.hid (fault_5 (s := s.data.toList) i pre (by rw [← HL.out]; exact h0))
    have hem := (empty_iff s).2 h0
    have H0 := Lib.hid h0; clear h0
    go_enter Tryd.func31, Tryd.ntmps31
    go_wp2
    go_ret
    exact ⟨by rw [HF.out]; rfl, Below.refl _ _⟩
  · have hem := (empty_no s).2 h0
    have H0 : Hid (s.data.toList.length ≠ 0) := by unfold Hid; rw [← HL.out]; exact h0
    clear h0
    by_cases h1 : 255 < s.size
    · have HF := Lib.hid (fault_4 (s := s.data.toList) (i := i) pre H0.out (.inl (by rw [← HL.out]; exact h1)))
      go_enter Tryd.func31, Tryd.ntmps31
      go_wp2
      go_ret
      exact ⟨by rw [HF.out]; rfl, Below.refl _ _⟩
    · by_cases h2 : 16 ≤ i
      · have HF := Lib.hid (fault_4 (s := s.data.toList) (i := i) pre H0.out (.inr h2))
        go_enter Tryd.func31, Tryd.ntmps31
        go_wp2
        go_ret
        exact ⟨by rw [HF.out]; rfl, Below.refl _ _⟩
      · have H12 : Hid (¬ (255 < s.data.toList.length ∨ 16 ≤ i)) := by unfold Hid; rw [← HL.out]; omega
        cases pre
        · have HF := Lib.hid (fault_0 (s := s.data.toList) (i := i) (pre := false) H0.out H12.out (by simp))
          go_enter Tryd.func31, Tryd.ntmps31
          go_wp2
          go_ret
          exact ⟨by rw [HF.out]; rfl, Below.refl _ _⟩
        · cases h3 : numeric s.data.toList
          · have HF := Lib.hid (fault_0 (s := s.data.toList) (i := i) (pre := true) H0.out H12.out (by simp [h3]))
            have H3 := Lib.hid h3; clear h3
            go_enter Tryd.func31, Tryd.ntmps31
            go_wp2_with fail
            refine (numeric_any s _ HS.out).mono ?_
            rintro e w' ⟨rfl, rfl⟩
            rw [H3.out]
            go_wp2
            go_ret
            exact ⟨by rw [HF.out]; rfl, Below.refl _ _⟩
          · cases h4 : isNum s.data.toList
            · have HF := Lib.hid (fault_3 (s := s.data.toList) (i := i) (pre := true) H0.out H12.out ⟨rfl, h3, h4⟩)
              have H3 := Lib.hid h3; clear h3
              have H4 := Lib.hid h4; clear h4
              go_enter Tryd.func31, Tryd.ntmps31
              go_wp2_with fail
              refine (numeric_any s _ HS.out).mono ?_
              rintro e w' ⟨rfl, rfl⟩
              rw [H3.out]
              go_wp2_with fail
              refine (is_any s _ HS.out).mono ?_
              rintro e w1 ⟨rfl, hb1⟩
              rw [H4.out]
              go_wp2
              go_ret
              exact ⟨by rw [HF.out]; rfl, hb1⟩
            · have HF := Lib.hid (fault_0 (s := s.data.toList) (i := i) (pre := true) H0.out H12.out (by simp [h4]))
              have H3 := Lib.hid h3; clear h3
              have H4 := Lib.hid h4; clear h4
              go_enter Tryd.func31, Tryd.ntmps31
              go_wp2_with fail
              refine (numeric_any s _ HS.out).mono ?_
              rintro e w' ⟨rfl, rfl⟩
              rw [H3.out]
              go_wp2_with fail
              refine (is_any s _ HS.out).mono ?_
              rintro e w1 ⟨rfl, hb1⟩
              rw [H4.out]
              go_wp2
              go_ret
              exact ⟨by rw [HF.out]; rfl, hb1⟩
end Go.Proofs.YtfimjmikmbkkgaaDoor.Ident
