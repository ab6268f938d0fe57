/-
  The document's own small functions of identifiers (ferruleref02.Byte, Numeric, wrong, Same): the same as the program's. Conditions: the texts have at most 1000000 bytes; the slices read as the lists xs and ys.
-/
import Derived.Test.YtnnmhamiegekpaaDoorNumRefIs
import Derived.Test.YtnnmhamiegekpaaDoorIdMem
import Derived.Test.YtnnmhamiegekpaaDoorIdWalks
import Derived.StillTailTactics
namespace Go.Proofs.YtnnmhamiegekpaaDoor.Ident
open Go.RowKit Num

theorem idB_yes1 {x : Int} (h : 48 ≤ x ∧ x ≤ 57) : idB x = true := by unfold idB; rw [digB_yes h]; rfl
theorem idB_yes2 {x : Int} (h : (65 ≤ x ∧ x ≤ 90) ∨ (97 ≤ x ∧ x ≤ 122)) : idB x = true := by unfold idB; rw [letB_yes h]; simp
theorem idB_yes3 : idB 45 = true := by decide
theorem idB_no {x : Int} (h1 : ¬ (48 ≤ x ∧ x ≤ 57)) (h2 : ¬ ((65 ≤ x ∧ x ≤ 90) ∨ (97 ≤ x ∧ x ≤ 122))) (h3 : x ≠ 45) : idB x = false := by
  unfold idB; rw [digB_no h1, letB_no h2]; simp [h3]

set_option maxHeartbeats 800000 in
theorem ref_byte_any (x : Int) (w : World) (h0 : 0 ≤ x) (h1 : x ≤ 255) :
    Calls Tryd.prog 20 #[.int .u8 x] w fun e w' => e = .returned (.bool (idB x)) ∧ w = w' := by
  by_cases ha : 48 ≤ x
  · by_cases hb : x ≤ 57
    · have HF := Lib.hid (idB_yes1 ⟨ha, hb⟩)
      go_enter Tryd.func20, Tryd.ntmps20
      go_wp2
      go_ret
      exact ⟨by rw [HF.out]; rfl, rfl⟩
    · have h45 : (x == 45) = false := by simp; omega
      by_cases hc : 65 ≤ x
      · by_cases hd : x ≤ 90
        · have HF := Lib.hid (idB_yes2 (.inl ⟨hc, hd⟩))
          go_enter Tryd.func20, Tryd.ntmps20
          go_wp2
          go_ret
          exact ⟨by rw [HF.out]; rfl, rfl⟩
        · by_cases he : 97 ≤ x
          · by_cases hf : x ≤ 122
            · have HF := Lib.hid (idB_yes2 (.inr ⟨he, hf⟩))
              go_enter Tryd.func20, Tryd.ntmps20
              go_wp2
              go_ret
              exact ⟨by rw [HF.out]; rfl, rfl⟩
            · have HF := Lib.hid (idB_no (x := x) (by omega) (by omega) (by omega))
              go_enter Tryd.func20, Tryd.ntmps20
              go_wp2
              go_ret
              exact ⟨by rw [HF.out]; rfl, rfl⟩
          · have HF := Lib.hid (idB_no (x := x) (by omega) (by omega) (by omega))
            go_enter Tryd.func20, Tryd.ntmps20
            go_wp2
            go_ret
            exact ⟨by rw [HF.out]; rfl, rfl⟩
      · have he : ¬ 97 ≤ x := by omega
        have HF := Lib.hid (idB_no (x := x) (by omega) (by omega) (by omega))
        go_enter Tryd.func20, Tryd.ntmps20
        go_wp2
        go_ret
        exact ⟨by rw [HF.out]; rfl, rfl⟩
  · have hc : ¬ 65 ≤ x := by omega
    have he : ¬ 97 ≤ x := by omega
    by_cases h45 : x = 45
    · subst h45
      have HF := Lib.hid idB_yes3
      clear ha hc he h0 h1
      go_enter Tryd.func20, Tryd.ntmps20
      go_wp2
      go_ret
      exact ⟨by rw [HF.out]; rfl, rfl⟩
    · have HF := Lib.hid (idB_no (x := x) (by omega) (by omega) h45)
      have hb45 : (x == 45) = false := by simp [h45]
      clear h45
      go_enter Tryd.func20, Tryd.ntmps20
      go_wp2
      go_ret
      exact ⟨by rw [HF.out]; rfl, rfl⟩

set_option maxHeartbeats 800000 in
theorem ref_numeric_any (s : ByteArray) (w : World) (hs : s.size ≤ 1000000) :
    Calls Tryd.prog 30 #[.string s] w fun e w' => e = .returned (.bool (numeric s.data.toList)) ∧ w = w' := by
  have LS := Lib.hid (Lib.size_eq s)
  go_enter Tryd.func30, Tryd.ntmps30
  go_wp2
  go_loop [3] (fun t => ∃ k : Nat, k ≤ s.size ∧ t = .int .i64 k ∧ Hid (∀ j, j < k → isDig (s.data.toList.getD j 0) = true)) (fun t => s.size - (intOf t).toNat)
  case atStart => exact ⟨0, by omega, rfl, fun j h => by omega⟩
  case round =>
    obtain ⟨k, hk, rfl, HD⟩ := hrel
    by_cases hlt : k < s.size
    · have HX := Lib.hid (at_text s k hlt)
      have HI := Lib.hid (isDig_at s.data.toList k)
      have HN : Hid (¬ (48 ≤ (s[k].toNat : Int) ∧ (s[k].toNat : Int) ≤ 57) → numeric s.data.toList = false) := fun hn => (numeric_no _).2 fun hh => hn (by
        have := run_dig s.data.toList k (by rw [hh.2, ← LS.out]; exact hlt)
        rw [HI.out, ← HX.out] at this; exact this)
      by_cases h1 : 48 ≤ (s[k].toNat : Int)
      · by_cases h2 : (s[k].toNat : Int) ≤ 57
        · go_wp2
          go_round
          case rel =>
            refine ⟨k + 1, by omega, by go_num, fun j hj => ?_⟩
            rcases Nat.lt_or_ge j k with hj1 | hj1
            · exact HD.out j hj1
            · obtain rfl : j = k := by omega
              exact HI.out.2 (by rw [← HX.out]; exact ⟨h1, h2⟩)
          case measure => simp [intOf]; omega
        · go_wp2
          go_ret
          exact ⟨by rw [HN.out (by omega)]; rfl, rfl⟩
      · go_wp2
        go_ret
        exact ⟨by rw [HN.out (by omega)]; rfl, rfl⟩
    · obtain rfl : k = s.size := by omega
      have HR : Hid (run s.data.toList = s.data.toList.length) := run_stop _ _ (Nat.le_refl _) (by rw [← LS.out]; exact HD.out) (.inl rfl)
      by_cases h0 : s.size = 0
      · have hem := (empty_iff s).2 h0
        have hem2 : (!s.toList.isEmpty) = false := by rw [hem]; rfl
        have HF : Hid (numeric s.data.toList = false) := (numeric_no _).2 fun hh => by have := hh.1; rw [← LS.out] at this; omega
        have H0 := Lib.hid h0; clear h0
        go_wp2
        go_ret
        exact ⟨by rw [HF.out]; rfl, rfl⟩
      · have hem := (empty_no s).2 h0
        have hem2 : (!s.toList.isEmpty) = true := by rw [hem]; rfl
        have HF : Hid (numeric s.data.toList = true) := (numeric_iff _).2 ⟨by rw [← LS.out]; omega, HR.out⟩
        go_wp2
        go_ret
        exact ⟨by rw [HF.out]; rfl, rfl⟩

set_option maxHeartbeats 800000 in
theorem wrong_any (s : ByteArray) (i : Nat) (pre : Bool) (w : World) (hs : s.size ≤ 1000000) (hi : i ≤ maxLen) :
    Calls Tryd.prog 21 #[.string s, .int .i64 i, .bool pre] w fun e w' => e = .returned (.int .i64 (fault s.data.toList i pre)) ∧ w = w' := by
  have HS := Lib.hid hs
  unfold maxLen at hi
  have HL := Lib.hid (Lib.size_eq s)
  by_cases h0 : s.size = 0
  · have HF := Lib.hid (fault_5 (s := s.data.toList) i pre (by rw [← HL.out]; exact h0))
    have hem := (empty_iff s).2 h0
    have H0 := Lib.hid h0; clear h0
    go_enter Tryd.func21, Tryd.ntmps21
    go_wp2
    go_ret
    exact ⟨by rw [HF.out]; rfl, rfl⟩
  · have hem := (empty_no s).2 h0
    have H0 : Hid (s.data.toList.length ≠ 0) := by unfold Hid; rw [← HL.out]; exact h0
    clear h0
    by_cases h1 : 255 < s.size
    · have HF := Lib.hid (fault_4 (s := s.data.toList) (i := i) pre H0.out (.inl (by rw [← HL.out]; exact h1)))
      go_enter Tryd.func21, Tryd.ntmps21
      go_wp2
      go_ret
      exact ⟨by rw [HF.out]; rfl, rfl⟩
    · by_cases h2 : 15 < i
      · have HF := Lib.hid (fault_4 (s := s.data.toList) (i := i) pre H0.out (.inr h2))
        go_enter Tryd.func21, Tryd.ntmps21
        go_wp2
        go_ret
        exact ⟨by rw [HF.out]; rfl, rfl⟩
      · have H12 : Hid (¬ (255 < s.data.toList.length ∨ 16 ≤ i)) := by unfold Hid; rw [← HL.out]; omega
        cases pre
        · have HF := Lib.hid (fault_0 (s := s.data.toList) (i := i) (pre := false) H0.out H12.out (by simp))
          go_enter Tryd.func21, Tryd.ntmps21
          go_wp2
          go_ret
          exact ⟨by rw [HF.out]; rfl, rfl⟩
        · cases h3 : numeric s.data.toList
          · have HF := Lib.hid (fault_0 (s := s.data.toList) (i := i) (pre := true) H0.out H12.out (by simp [h3]))
            have H3 := Lib.hid h3; clear h3
            go_enter Tryd.func21, Tryd.ntmps21
            go_wp2_with fail
            refine (ref_numeric_any s _ HS.out).mono ?_
            rintro e w' ⟨rfl, rfl⟩
            rw [H3.out]
            go_wp2
            go_ret
            exact ⟨by rw [HF.out]; rfl, rfl⟩
          · have HF : Hid (fault s.data.toList i true = if isNum s.data.toList = true then 0 else 3) := by
              unfold Hid
              cases h4 : isNum s.data.toList
              · exact fault_3 H0.out H12.out ⟨rfl, h3, h4⟩
              · exact fault_0 H0.out H12.out (by simp [h4])
            have H3 := Lib.hid h3; clear h3
            cases h4 : isNum s.data.toList
            · have H4 := Lib.hid h4; clear h4
              go_enter Tryd.func21, Tryd.ntmps21
              go_wp2_with fail
              refine (ref_numeric_any s _ HS.out).mono ?_
              rintro e w' ⟨rfl, rfl⟩
              rw [H3.out]
              go_wp2_with fail
              refine (ref_is_any s _ HS.out).mono ?_
              rintro e w1 ⟨rfl, rfl⟩
              rw [H4.out]
              go_wp2
              go_ret
              exact ⟨by rw [HF.out, H4.out]; rfl, rfl⟩
            · have H4 := Lib.hid h4; clear h4
              go_enter Tryd.func21, Tryd.ntmps21
              go_wp2_with fail
              refine (ref_numeric_any s _ HS.out).mono ?_
              rintro e w' ⟨rfl, rfl⟩
              rw [H3.out]
              go_wp2_with fail
              refine (ref_is_any s _ HS.out).mono ?_
              rintro e w1 ⟨rfl, rfl⟩
              rw [H4.out]
              go_wp2
              go_ret
              exact ⟨by rw [HF.out, H4.out]; rfl, rfl⟩

def sameB (xs ys : List (List UInt8)) : Bool := xs == ys
theorem sameB_iff (xs ys : List (List UInt8)) : sameB xs ys = true ↔ xs = ys := by simp [sameB]
theorem sameB_no {xs ys : List (List UInt8)} (h : xs ≠ ys) : sameB xs ys = false := by simp [sameB, h]

set_option maxHeartbeats 800000 in
theorem same_any (A : Option Addr) (a ca : Nat) (xs : List (List UInt8)) (B : Option Addr) (b cb : Nat) (ys : List (List UInt8)) (w : World) (hA : SRow w A a xs) (hB : SRow w B b ys) (ha : a ≤ maxLen) (hb : b ≤ maxLen) :
    Calls Tryd.prog 10 #[.slice A a ca, .slice B b cb] w fun e w' => e = .returned (.bool (sameB xs ys)) ∧ Below w.heap.size w w' := by
  unfold maxLen at ha hb
  have HA := Lib.hid hA
  have HB := Lib.hid hB
  have HLA := Lib.hid hA.1
  have HLB := Lib.hid hB.1
  clear hA hB
  by_cases hab : a = b
  · subst hab
    go_enter Tryd.func10, Tryd.ntmps10
    go_wp2
    go_loopw [5] (fun i W => ∃ k : Nat, k ≤ a ∧ i = .int .i64 k ∧ Hid (∀ j, j < k → xs.getD j [] = ys.getD j []) ∧ Hid (Below w.heap.size w W)) (fun i _ => a - (intOf i).toNat)
    case atStart => exact ⟨0, Nat.zero_le _, rfl, (fun j hj => by omega), Below.refl _ _⟩
    case round =>
      obtain ⟨k, hk, rfl, HD, HW⟩ := hrel
      by_cases hlt : k < a
      · obtain ⟨g1, o1, rfl, hg1, hc1⟩ := (HA.out.kept HW.out).2 (by omega)
        obtain ⟨g2, o2, rfl, hg2, hc2⟩ := (HB.out.kept HW.out).2 (by omega)
        have hx1 := hc1 k hlt
        have hx2 := hc2 k hlt
        clear hc1 hc2
        obtain ⟨s, hs⟩ : ∃ s, mk (xs.getD k []) = s := ⟨_, rfl⟩
        obtain ⟨t, ht⟩ : ∃ t, mk (ys.getD k []) = t := ⟨_, rfl⟩
        have HS : Hid (s = t → xs.getD k [] = ys.getD k []) := fun h => by rw [← hs, ← ht] at h; have := congrArg (fun z : ByteArray => z.data.toList) h; exact this
        have HS2 : Hid (s ≠ t → xs ≠ ys) := fun h h2 => h (by rw [← hs, ← ht, h2])
        rw [hs] at hx1
        rw [ht] at hx2
        clear hs ht
        by_cases hst : s = t
        · have HS3 := Lib.hid (HS.out hst)
          subst hst
          have hq : (s.toList == s.toList) = true := by simp
          have hq2 : (s.toList != s.toList) = false := by simp
          go_wp2
          go_still (by kernel_rfl)
          have HW2 := Lib.hid HW.out.drew
          go_wp2
          refine ⟨⟨k + 1, by omega, by go_num, (fun j hj => ?_), HW2.out⟩, by simp [intOf]; omega⟩
          rcases Nat.lt_or_ge j k with hj1 | hj1
          · exact HD.out j hj1
          · obtain rfl : j = k := by omega
            exact HS3.out
        · have HS3 := Lib.hid (HS2.out hst)
          have hq : (s.toList == t.toList) = false := by
            rw [Lib.toList_data, Lib.toList_data, beq_eq_false_iff_ne]
            exact fun h => hst (by have := congrArg mk h; exact this)
          have hq2 : (s.toList != t.toList) = true := by rw [bne, hq]; rfl
          clear hst
          go_wp2
          go_still (by kernel_rfl)
          have HW2 := Lib.hid HW.out.drew
          go_wp2
          go_ret
          exact ⟨by rw [sameB_no HS3.out]; rfl, HW2.out⟩
      · have HF : Hid (sameB xs ys = true) := (sameB_iff xs ys).2 (List.ext_getElem (by rw [HLA.out, HLB.out]) fun j h1 h2 => by
          have := HD.out j (by rw [HLA.out] at h1; omega)
          simpa [List.getD, List.getElem?_eq_getElem h1, List.getElem?_eq_getElem h2] using this)
        go_wp2
        go_ret
        exact ⟨by rw [HF.out]; rfl, HW.out⟩
  · have HF : Hid (sameB xs ys = false) := sameB_no fun h => hab (by rw [← HLA.out, ← HLB.out, h])
    have hq : ((a : Int) == (b : Int)) = false := by simp; omega
    have hq2 : ((a : Int) != (b : Int)) = true := by simp; omega
    go_enter Tryd.func10, Tryd.ntmps10
    go_wp2
    go_ret
    exact ⟨by rw [HF.out]; rfl, Below.refl _ _⟩
end Go.Proofs.YtnnmhamiegekpaaDoor.Ident
