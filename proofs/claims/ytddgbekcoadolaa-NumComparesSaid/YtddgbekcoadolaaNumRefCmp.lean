/-
  The document's own answers on which texts are numerals and how they compare (ferruleref01.Is, ferruleref01.Compare): the same as the program's. Condition: the texts have at most 200 bytes.
-/
import Derived.Test.YtddgbekcoadolaaNumIs
import Derived.Test.YtddgbekcoadolaaNumRef
namespace Go.Proofs.Ytddgbekcoadolaa.Num
open Go.RowKit

set_option maxHeartbeats 800000 in
theorem ref_is_any (s : ByteArray) (w : World) (hs : s.size ≤ 200) :
    Calls Try.prog 11 #[.string s] w fun e w' => e = .returned (.bool (isNum s.data.toList)) ∧ w = w' := by
  have LS := Lib.hid (Lib.size_eq s)
  go_enter Try.func11, Try.ntmps11
  go_wp2
  go_loop [3] (fun t => ∃ k : Nat, k ≤ s.size ∧ t = .int .i64 k ∧ Hid (∀ j, j < k → isDig (s.data.toList.getD j 0) = true)) (fun t => s.size - (intOf t).toNat)
  case atStart => exact ⟨0, by omega, rfl, fun j h => by omega⟩
  case round =>
    obtain ⟨k, hk, rfl, HD⟩ := hrel
    by_cases hlt : k < s.size
    · have HX := Lib.hid (at_text s k hlt)
      have HI := Lib.hid (isDig_at s.data.toList k)
      have HN : Hid (¬ (48 ≤ (s[k].toNat : Int) ∧ (s[k].toNat : Int) ≤ 57) → isNum s.data.toList = false) := fun hn => (isNum_no _).2 fun hh => hn (by
        have := run_dig s.data.toList k (by rw [hh.2.1, ← LS.out]; exact hlt)
        rw [HI.out, ← HX.out] at this; exact this)
      by_cases h1 : 48 ≤ (s[k].toNat : Int)
      · by_cases h2 : (s[k].toNat : Int) ≤ 57
        · go_wp2
          go_round
          case rel =>
            refine ⟨k + 1, by omega, by go_num, fun j hj => ?_⟩
            rcases Nat.lt_or_ge j k with hj1 | hj1
            · exact HD.out j hj1
            · obtain rfl : j = k := by omega
              exact HI.out.2 (by rw [← HX.out]; exact ⟨h1, h2⟩)
          case measure => simp [intOf]; omega
        · go_wp2
          go_ret
          exact ⟨by rw [HN.out (by omega)]; rfl, rfl⟩
      · go_wp2
        go_ret
        exact ⟨by rw [HN.out (by omega)]; rfl, rfl⟩
    · obtain rfl : k = s.size := by omega
      have HR : Hid (run s.data.toList = s.data.toList.length) := run_stop _ _ (Nat.le_refl _) (by rw [← LS.out]; exact HD.out) (.inl rfl)
      by_cases hz : s.toList = [48]
      · have hb : (s.toList == [48]) = true := by rw [hz]; rfl
        have HF : Hid (isNum s.data.toList = true) := by
          rw [Lib.toList_data] at hz
          unfold Hid; rw [hz]; decide
        have HZ := Lib.hid hz; clear hz
        go_wp2
        go_ret
        exact ⟨by rw [HF.out]; rfl, rfl⟩
      · have hb : (s.toList == [48]) = false := by simpa using hz
        by_cases h0 : s.size = 0
        · have hem : s.toList.isEmpty = true := by rw [Lib.toList_data, List.isEmpty_iff_length_eq_zero, ← LS.out]; exact h0
          have hem2 : (!s.toList.isEmpty) = false := by rw [hem]; rfl
          have HF : Hid (isNum s.data.toList = false) := (isNum_no _).2 fun hh => by have := hh.1; rw [← LS.out] at this; omega
          have H0 := Lib.hid h0; clear h0
          go_wp2
          go_ret
          exact ⟨by rw [HF.out]; rfl, rfl⟩
        · have hem : s.toList.isEmpty = false := by rw [Lib.toList_data, ← Bool.not_eq_true, List.isEmpty_iff_length_eq_zero, ← LS.out]; exact h0
          have hem2 : (!s.toList.isEmpty) = true := by rw [hem]; rfl
          have HP : Hid (∀ h : 0 < s.size, isNum s.data.toList = ((s[0].toNat : Int) != 48)) := by
            intro h
            have e := at_text s 0 h
            rw [Bool.eq_iff_iff, isNum_iff, bne_iff_ne, pad_no, HR.out]
            unfold byteAt at e
            rw [e]
            constructor
            · rintro ⟨_, _, hp⟩ h48
              have h48' : (s.data.toList.getD 0 0).toNat = 48 := by omega
              by_cases h1 : 1 < s.data.toList.length
              · exact hp ⟨h1, h48'⟩
              · apply hz
                rw [Lib.toList_data]
                have hl : s.data.toList.length = 1 := by have := LS.out; omega
                obtain ⟨b, hb1⟩ := List.length_eq_one_iff.1 hl
                rw [hb1] at h48' ⊢
                have : b = 48 := UInt8.toNat_inj.1 (by simpa using h48')
                rw [this]
            · intro h48
              exact ⟨by have := LS.out; omega, rfl, fun hh => h48 (by have := hh.2; omega)⟩
          have HZ := Lib.hid hz; clear hz
          go_wp2
          go_ret
          exact ⟨by rw [HP.out (by omega)]; rfl, rfl⟩

def strSize : Value → Nat
  | .string s => s.size
  | _ => 0
/-- A text with zeros put ahead. -/
def Zeros (l : List UInt8) (t : ByteArray) : Prop := ∃ z, t.data.toList = List.replicate z 48 ++ l
theorem zero_size (s : ByteArray) : ((⟨#[48]⟩ : ByteArray) ++ s).size = s.size + 1 := by
  rw [ByteArray.size_append]; show 1 + s.size = _; omega
theorem zero_ahead {l : List UInt8} {s : ByteArray} (h : Zeros l s) : Zeros l ((⟨#[48]⟩ : ByteArray) ++ s) := by
  obtain ⟨z, hz⟩ := h
  refine ⟨z + 1, ?_⟩
  rw [ByteArray.data_append, Array.toList_append, hz, List.replicate_succ]
  rfl
theorem zeros_val (z : Nat) (l : List UInt8) : val (List.replicate z 48 ++ l) = val l := by
  induction z with
  | zero => rfl
  | succ z ih =>
    rw [List.replicate_succ, List.cons_append, val_cons, ih]
    simp
theorem zeros_dig (z : Nat) {l : List UInt8} (h : AllDig l) : AllDig (List.replicate z 48 ++ l) := by
  intro b hb
  rw [List.mem_append] at hb
  rcases hb with hb | hb
  · rw [List.eq_of_mem_replicate hb]; decide
  · exact h b hb

/-- What two texts with zeros ahead, of one length, answer. -/
theorem zeros_less {l r : List UInt8} {s t : ByteArray} (hl : AllDig l) (hr : AllDig r) (hs : Zeros l s) (ht : Zeros r t) (h : s.size = t.size) : (Op.bytesLess s.toList t.toList = true ↔ val l < val r) := by
  obtain ⟨y, hy⟩ := hs
  obtain ⟨z, hz⟩ := ht
  rw [Lib.size_eq, Lib.size_eq, hy, hz] at h
  rw [Lib.toList_data, Lib.toList_data, hy, hz, less_val _ _ (zeros_dig y hl) (zeros_dig z hr) h, zeros_val, zeros_val]
theorem zeros_eq {l r : List UInt8} {s t : ByteArray} (hl : AllDig l) (hr : AllDig r) (hs : Zeros l s) (ht : Zeros r t) (h : s.size = t.size) : ((s.toList == t.toList) = true ↔ val l = val r) := by
  obtain ⟨y, hy⟩ := hs
  obtain ⟨z, hz⟩ := ht
  rw [Lib.size_eq, Lib.size_eq, hy, hz] at h
  rw [Lib.toList_data, Lib.toList_data, hy, hz, beq_iff_eq]
  constructor
  · intro e
    have := congrArg val e
    rwa [zeros_val, zeros_val] at this
  · intro e
    exact val_inj _ _ (zeros_dig y hl) (zeros_dig z hr) h (by rw [zeros_val, zeros_val]; exact e)

set_option maxHeartbeats 800000 in
theorem ref_cmp_any (s t : ByteArray) (w : World) (hs : s.size ≤ 200) (ht : t.size ≤ 200) :
    Calls Try.prog 12 #[.string s, .string t] w fun e w' => e = .returned (.int .i64 (cmpNum s.data.toList t.data.toList)) ∧ w = w' := by
  cases ha : isNum s.data.toList
  · have HF := Lib.hid (cmpNum_no (b := t.data.toList) (.inl ha))
    have HA := Lib.hid ha; clear ha
    go_enter Try.func12, Try.ntmps12
    go_wp2_with fail
    refine (ref_is_any s _ hs).mono ?_
    rintro e w' ⟨rfl, rfl⟩
    rw [HA.out]
    go_wp2
    go_ret
    exact ⟨by rw [HF.out]; rfl, rfl⟩
  · cases hb : isNum t.data.toList
    · have HF := Lib.hid (cmpNum_no (a := s.data.toList) (.inr hb))
      have HA := Lib.hid ha; clear ha
      have HB := Lib.hid hb; clear hb
      go_enter Try.func12, Try.ntmps12
      go_wp2_with fail
      refine (ref_is_any s _ hs).mono ?_
      rintro e w' ⟨rfl, rfl⟩
      rw [HA.out]
      go_wp2_with fail
      refine (ref_is_any t _ ht).mono ?_
      rintro e w' ⟨rfl, rfl⟩
      rw [HB.out]
      go_wp2
      go_ret
      exact ⟨by rw [HF.out]; rfl, rfl⟩
    · have HF := Lib.hid (cmpNum_yes ha hb)
      have AA : Hid (AllDig s.data.toList) := all_of_run ((isNum_iff _).1 ha).2.1
      have AB : Hid (AllDig t.data.toList) := all_of_run ((isNum_iff _).1 hb).2.1
      have HA := Lib.hid ha; clear ha
      have HB := Lib.hid hb; clear hb
      go_enter Try.func12, Try.ntmps12
      go_wp2_with fail
      refine (ref_is_any s _ hs).mono ?_
      rintro e w' ⟨rfl, rfl⟩
      rw [HA.out]
      go_wp2_with fail
      refine (ref_is_any t _ ht).mono ?_
      rintro e w' ⟨rfl, rfl⟩
      rw [HB.out]
      have ZA : Hid (Zeros s.data.toList s) := ⟨0, rfl⟩
      have ZB : Hid (Zeros t.data.toList t) := ⟨0, rfl⟩
      obtain ⟨l, hl⟩ : ∃ l, s.data.toList = l := ⟨_, rfl⟩
      obtain ⟨r, hr⟩ : ∃ r, t.data.toList = r := ⟨_, rfl⟩
      have HG : Hid (cmpNum s.data.toList t.data.toList = ordN (val l) (val r)) := by have := HF.out; rw [hl, hr] at this ⊢; exact this
      rw [hl] at AA ZA
      rw [hr] at AB ZB
      clear HF HA HB hl hr
      go_wp2
      go_loop [0] (fun v => ∃ s' : ByteArray, v = .string s' ∧ Hid (Zeros l s') ∧ s'.size ≤ 200) (fun v => t.size - strSize v)
      case atStart => exact ⟨s, rfl, ZA, hs⟩
      case round =>
        obtain ⟨s', rfl, ZS, hs'⟩ := hrel
        by_cases hlt : s'.size < t.size
        · go_wp2
          go_round
          case rel => exact ⟨_, rfl, zero_ahead ZS.out, by rw [zero_size]; omega⟩
          case measure => simp only [strSize]; rw [zero_size]; omega
        · go_wp2
          go_loop [1] (fun v => ∃ t' : ByteArray, v = .string t' ∧ Hid (Zeros r t') ∧ t'.size ≤ s'.size) (fun v => s'.size - strSize v)
          case atStart => exact ⟨t, rfl, ZB, by omega⟩
          case round =>
            obtain ⟨t', rfl, ZT, ht'⟩ := hrel
            by_cases hlt2 : t'.size < s'.size
            · go_wp2
              go_round
              case rel => exact ⟨_, rfl, zero_ahead ZT.out, by rw [zero_size]; omega⟩
              case measure => simp only [strSize]; rw [zero_size]; omega
            · have hsz : s'.size = t'.size := by omega
              have h1 := zeros_less AA.out AB.out ZS.out ZT.out hsz
              have h2 := zeros_eq AA.out AB.out ZS.out ZT.out hsz
              clear hsz
              rcases Nat.lt_trichotomy (val l) (val r) with h | h | h
              · have hb1 : Op.bytesLess s'.toList t'.toList = true := h1.2 h
                have HO := Lib.hid (ordN_lt h)
                clear h h1 h2
                go_wp2
                go_ret
                exact ⟨by rw [HG.out, HO.out]; rfl, rfl⟩
              · have hb1 : Op.bytesLess s'.toList t'.toList = false := by rw [← Bool.not_eq_true, h1]; omega
                have hb2 : (s'.toList == t'.toList) = true := h2.2 h
                have HO := Lib.hid (ordN_eq h)
                clear h h1 h2
                go_wp2
                go_ret
                exact ⟨by rw [HG.out, HO.out]; rfl, rfl⟩
              · have hb1 : Op.bytesLess s'.toList t'.toList = false := by rw [← Bool.not_eq_true, h1]; omega
                have hb2 : (s'.toList == t'.toList) = false := by rw [← Bool.not_eq_true, h2]; omega
                have HO := Lib.hid (ordN_gt h)
                clear h h1 h2
                go_wp2
                go_ret
                exact ⟨by rw [HG.out, HO.out]; rfl, rfl⟩
end Go.Proofs.Ytddgbekcoadolaa.Num
