/-
  The law IdentGood answers true for any row of either kind, and writes nothing that was there. Conditions: the slice reads as the list xs; the texts' lengths are those that the form allows.
-/
import Derived.Test.YtnnmhamiegekpaaDoorIdAwake
import Derived.Test.YtnnmhamiegekpaaDoorIdTexts
namespace Go.Proofs.YtnnmhamiegekpaaDoor.Ident
open Go.RowKit Num

theorem mk_plus (t : List UInt8) : mk t ++ (⟨#[43]⟩ : ByteArray) = mk (t ++ [43]) := by
  have : (mk t ++ (⟨#[43]⟩ : ByteArray)).data.toList = t ++ [43] := by
    rw [ByteArray.data_append, Array.toList_append]; rfl
  rw [← this]; rfl

set_option maxRecDepth 100000 in
set_option maxHeartbeats 1600000 in
theorem identGood_any (A : Option Addr) (n c : Nat) (xs : List (List UInt8)) (pre : Bool) (w : World) (hr : SRow w A n xs) (hc : n ≤ c) (hn : n ≤ maxLen) :
    Calls Tryd.prog 4 #[.slice A n c, .bool pre] w fun e w' => e = .returned (.bool true) ∧ Below w.heap.size w w' := by
  have HN := Lib.hid hn
  unfold maxLen at hn
  have HR := Lib.hid hr
  have HL := Lib.hid hr.1
  clear hr
  cases h1 : shortB xs
  · have H1 := Lib.hid h1; clear h1
    go_enter Tryd.func4, Tryd.ntmps4
    go_wp2_with fail
    refine (awake_any _).mono ?_
    rintro e w1 ⟨rfl, hb1⟩
    go_wp2_with fail
    refine (short_any _ _ _ _ _ (HR.out.kept hb1) HN.out).mono ?_
    rw [H1.out]
    rintro e w' ⟨rfl, rfl⟩
    go_wp2
    go_ret
    exact ⟨rfl, hb1⟩
  have H1 := Lib.hid h1
  have HSH := Lib.hid ((shortB_iff xs).1 h1)
  clear h1
  have hjl : (joined xs).length ≤ 12040 := by
    have h := joined_le xs HSH.out.2
    have := HSH.out.1
    omega
  have HMX : Hid (∀ x ∈ xs, x.length ≤ maxLen) := fun x hx => by have := HSH.out.2 x hx; unfold maxLen; omega
  have HGD := Lib.hid (fun h0 h => row_good (pre := pre) (xs := xs) h0 h)
  have hjs : (mk (joined xs)).size ≤ 12040 := hjl
  have hq1 : ((mk (joined xs)).toList == (mk (joined xs)).toList) = true := by simp
  have hq2 : ((mk (joined xs)).toList != (mk (joined xs)).toList) = false := by simp
  obtain ⟨gd, hgd⟩ : ∃ gd, goodFrom pre xs 0 = gd := ⟨_, rfl⟩
  rw [hgd] at HGD
  have HGV := Lib.hid hgd; clear hgd
  cases gd
  · go_enter Tryd.func4, Tryd.ntmps4
    go_wp2_with fail
    refine (awake_any _).mono ?_
    rintro e w1 ⟨rfl, hb1⟩
    have HB1 := Lib.hid hb1; clear hb1
    have hz1 := HB1.out.size
    go_wp2_with fail
    refine (short_any _ _ _ _ _ (HR.out.kept HB1.out) HN.out).mono ?_
    rw [H1.out]
    rintro e w' ⟨rfl, rfl⟩
    go_wp2_with fail
    refine (text_any _ _ _ _ _ (HR.out.kept HB1.out) hc H1.out).mono ?_
    rintro e w2 ⟨rfl, hb2⟩
    have HB2 := Lib.hid (HB1.out.trans (hb2.mono hz1)); clear hb2
    have hz2 := HB2.out.size
    go_wp2_with fail
    refine (good_any _ _ _ xs pre _ (HR.out.kept HB2.out) HN.out HMX.out).mono ?_
    rw [HGV.out]
    rintro e w3 ⟨rfl, hb3⟩
    have HB3 := Lib.hid (HB2.out.trans (hb3.mono hz2)); clear hb3
    have hz3 := HB3.out.size
    go_wp2_with fail
    refine (ref_text_any _ _ _ xs _ (HR.out.kept HB3.out) H1.out).mono ?_
    rintro e w' ⟨rfl, rfl⟩
    go_wp2_with fail
    refine (ref_good_any _ _ _ xs pre _ (HR.out.kept HB3.out) H1.out).mono ?_
    rw [HGV.out]
    rintro e w' ⟨rfl, rfl⟩
    go_wp2
    go_ret
    exact ⟨rfl, HB3.out⟩
  · by_cases h0 : n = 0
    · have hb0 : ((n : Int) == 0) = true := by simp [h0]
      have H0 := Lib.hid h0; clear h0
      go_enter Tryd.func4, Tryd.ntmps4
      go_wp2_with fail
      refine (awake_any _).mono ?_
      rintro e w1 ⟨rfl, hb1⟩
      have HB1 := Lib.hid hb1; clear hb1
      have hz1 := HB1.out.size
      go_wp2_with fail
      refine (short_any _ _ _ _ _ (HR.out.kept HB1.out) HN.out).mono ?_
      rw [H1.out]
      rintro e w' ⟨rfl, rfl⟩
      go_wp2_with fail
      refine (text_any _ _ _ _ _ (HR.out.kept HB1.out) hc H1.out).mono ?_
      rintro e w2 ⟨rfl, hb2⟩
      have HB2 := Lib.hid (HB1.out.trans (hb2.mono hz1)); clear hb2
      have hz2 := HB2.out.size
      go_wp2_with fail
      refine (good_any _ _ _ xs pre _ (HR.out.kept HB2.out) HN.out HMX.out).mono ?_
      rw [HGV.out]
      rintro e w3 ⟨rfl, hb3⟩
      have HB3 := Lib.hid (HB2.out.trans (hb3.mono hz2)); clear hb3
      have hz3 := HB3.out.size
      go_wp2_with fail
      refine (ref_text_any _ _ _ xs _ (HR.out.kept HB3.out) H1.out).mono ?_
      rintro e w' ⟨rfl, rfl⟩
      go_wp2_with fail
      refine (ref_good_any _ _ _ xs pre _ (HR.out.kept HB3.out) H1.out).mono ?_
      rw [HGV.out]
      rintro e w' ⟨rfl, rfl⟩
      go_wp2
      go_ret
      exact ⟨rfl, HB3.out⟩
    · have HRG : Hid (row (mk (joined xs ++ [43])).data.toList 0 pre = (0, (joined xs).length, xs)) := HGD.out (fun e => h0 (by rw [← HL.out, e]; rfl)) rfl
      have hb0 : ((n : Int) == 0) = false := by simp; exact h0
      have hcat := mk_plus (joined xs)
      have hcap : ¬ 9223372036854775807 < (mk (joined xs)).size + 1 := by omega
      have HSZ : Hid ((mk (joined xs ++ [43])).size ≤ maxLen) := by unfold Hid maxLen; rw [mk_size, List.length_append]; simp; omega
      have HJS : Hid ((joined xs).length = (mk (joined xs)).size) := rfl
      generalize mk (joined xs ++ [43]) = T at hcat HRG HSZ
      clear h0 HGD
      go_enter Tryd.func4, Tryd.ntmps4
      go_wp2_with fail
      refine (awake_any _).mono ?_
      rintro e w1 ⟨rfl, hb1⟩
      have HB1 := Lib.hid hb1; clear hb1
      have hz1 := HB1.out.size
      go_wp2_with fail
      refine (short_any _ _ _ _ _ (HR.out.kept HB1.out) HN.out).mono ?_
      rw [H1.out]
      rintro e w' ⟨rfl, rfl⟩
      go_wp2_with fail
      refine (text_any _ _ _ _ _ (HR.out.kept HB1.out) hc H1.out).mono ?_
      rintro e w2 ⟨rfl, hb2⟩
      have HB2 := Lib.hid (HB1.out.trans (hb2.mono hz1)); clear hb2
      have hz2 := HB2.out.size
      go_wp2_with fail
      refine (good_any _ _ _ xs pre _ (HR.out.kept HB2.out) HN.out HMX.out).mono ?_
      rw [HGV.out]
      rintro e w3 ⟨rfl, hb3⟩
      have HB3 := Lib.hid (HB2.out.trans (hb3.mono hz2)); clear hb3
      have hz3 := HB3.out.size
      go_wp2_with fail
      refine (ref_text_any _ _ _ xs _ (HR.out.kept HB3.out) H1.out).mono ?_
      rintro e w' ⟨rfl, rfl⟩
      go_wp2_with fail
      refine (ref_good_any _ _ _ xs pre _ (HR.out.kept HB3.out) H1.out).mono ?_
      rw [HGV.out]
      rintro e w' ⟨rfl, rfl⟩
      obtain ⟨cc, W, hcc, hcv, hrr, hbW⟩ := run_bytes w3 T HSZ.out
      have HRR := Lib.hid hrr
      have HBW := Lib.hid (HB3.out.trans (hbW.mono hz3))
      clear hrr hbW
      have hzW := HBW.out.size
      go_wp2_with fail
      refine (row_any _ _ _ _ 0 pre _ HRR.out hcc).mono ?_
      rw [HRG.out]
      rintro e w4 ⟨A4, c4, rfl, hc4, hr4, hb4⟩
      simp only at hc4 hr4 ⊢
      have HR4 := Lib.hid hr4
      have HB4 := Lib.hid (HBW.out.trans (hb4.mono hzW))
      clear hr4 hb4
      have hz4 := HB4.out.size
      rw [HJS.out]
      go_wp2_with fail
      refine (same_any _ _ _ xs _ _ _ xs _ (HR.out.kept HB4.out) HR4.out HN.out (by rw [HL.out]; exact HN.out)).mono ?_
      rw [(sameB_iff xs xs).2 rfl]
      rintro e w5 ⟨rfl, hb5⟩
      have HB5 := Lib.hid (HB4.out.trans (hb5.mono hz4))
      clear hb5
      go_wp2
      go_ret
      exact ⟨rfl, HB5.out⟩
end Go.Proofs.YtnnmhamiegekpaaDoor.Ident
