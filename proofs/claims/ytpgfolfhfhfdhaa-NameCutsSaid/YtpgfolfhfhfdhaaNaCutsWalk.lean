/-
  The law NameCuts answers true for any text and any numbers, and writes nothing that was there, if package name answers as told (Says). No further condition.
-/
import Derived.Test.YtpgfolfhfhfdhaaNaSays
import Derived.Test.YtpgfolfhfhfdhaaNumBytes
import Derived.Test.YtpgfolfhfhfdhaaTk
import Derived.Deep.CutBlock
import Derived.Deep.DeepCutAuto
namespace Go.Proofs.Ytpgfolfhfhfdhaa.Name
open Go.RowKit Num Ident Fr

theorem scan_snoc {l : List UInt8} (h : isName l = true) (c : UInt8) : nscan (l ++ [c]) 0 = if okB l.length c.toNat = true then (if 255 < l.length + 1 then (0, 12) else (((l.length + 1 : Nat) : Int), 0)) else (((l.length : Nat) : Int), 0) := by
  obtain ⟨h1, h2, h3⟩ := (isName_iff l).1 h
  have e := nlen_snoc h1 c
  unfold nscan
  rw [if_neg (by omega), show (0 : Int).toNat = 0 from rfl, List.drop_zero, e]
  by_cases g : okB l.length c.toNat = true
  · rw [if_pos g, if_pos g]
    by_cases k : 255 < l.length + 1
    · rw [if_pos (.inr k), if_pos k]
    · rw [if_neg (by omega), if_neg k]
  · rw [if_neg g, if_neg g, if_neg (by omega)]
theorem take_text (s : ByteArray) (k : Nat) : (s.extract 0 k).data.toList = s.data.toList.take k := by
  have := Lib.extract_data s 0 k
  rw [this]; simp
set_option maxRecDepth 100000 in
set_option maxHeartbeats 3200000 in
theorem nameCuts_of (S : Says) (s : ByteArray) (n x : Int) (w : World) (hs : s.size ≤ maxLen) (n0 : 0 ≤ n) (n1 : n ≤ 255) (x0 : 0 ≤ x) (x1 : x ≤ 255) :
    Calls Try.prog 6 #[.string s, .int .u8 n, .int .u8 x] w fun e w' => e = .returned (.bool true) ∧ Below w.heap.size w w' := by
  have HS := Lib.hid S
  have HM := Lib.hid hs
  have HL := Lib.hid (Lib.size_eq s)
  unfold maxLen at hs
  obtain ⟨b, hb⟩ : ∃ b : UInt8, x = (b.toNat : Int) := ⟨UInt8.ofNat x.toNat, by rw [UInt8.toNat_ofNat']; omega⟩
  have HX := Lib.hid hb
  clear S hb
  go_enter Try.func6, Try.ntmps6
  go_wp2_with fail
  refine (awake_of HS.out _).mono ?_
  rintro e w1 ⟨rfl, hb1⟩
  have HB1 := Lib.hid hb1; clear hb1
  by_cases h0 : s.size = 0
  · have hb0 : ((s.size : Int) == 0) = true := by simp [h0]
    have H0 := Lib.hid h0; clear h0
    go_wp2
    go_ret
    exact ⟨rfl, HB1.out⟩
  · have hb0 : ((s.size : Int) == 0) = false := by simp [h0]
    by_cases h3 : 300 < s.size
    · go_wp2
      go_ret
      exact ⟨rfl, HB1.out⟩
    · go_wp2_with fail
      refine (HS.out.good s _ HM.out).mono ?_
      rintro e w2 ⟨rfl, hb2⟩
      have HB2 := Lib.hid (HB1.out.trans (hb2.mono HB1.out.size)); clear hb2
      cases hn : isName s.data.toList
      · go_wp2
        go_ret
        exact ⟨rfl, HB2.out⟩
      · have HN := Lib.hid hn; clear hn
        obtain ⟨c, W, hc, hcv, hr, hb, hgs, hsp⟩ := run_bytes_room w2 s HM.out
        have HR := Lib.hid hr
        have HB3 := Lib.hid (HB2.out.trans (hb.mono HB2.out.size))
        have HB23 := Lib.hid hb
        have HSP := Lib.hid hsp
        clear hr hb hsp
        go_upto_region 5 with (fail)
        have hm0 : 0 ≤ n.tmod (s.size : Int) := Int.tmod_nonneg _ n0
        have hm1 : n.tmod (s.size : Int) < (s.size : Int) := Int.tmod_lt_of_pos _ (by omega)
        have hnz : ((s.size : Int) == 0) = false := hb0
        obtain ⟨m, hm⟩ : ∃ m : Nat, n.tmod (s.size : Int) = (m : Int) := ⟨(n.tmod (s.size : Int)).toNat, by omega⟩
        go_upto_region 6 with (fail)
        obtain ⟨k, hk⟩ : ∃ k : Nat, (1 + (m : Int)) = (k : Int) := ⟨m + 1, by omega⟩
        rw [hk]
        have hk0 : 0 < k := by omega
        have hk1 : k ≤ s.size := by omega
        have HMO := Lib.hid hm
        have HKM := Lib.hid hk
        clear hm hk hm0 hm1 hnz
        have hcell : (W.alloc (.cells #[.int .u8 (b.toNat : Int)] 5)).cell? ⟨W.heap.size, 0, none⟩ = some (.int .u8 (b.toNat : Int)) := cell_of_row _ _ _ #[.int .u8 (b.toNat : Int)] _ _ (heap_alloc_new W _)
        have hbel : Below w2.heap.size W (W.alloc (.cells #[.int .u8 (b.toNat : Int)] 5)) := (Below.refl _ _).alloc (Nat.le_of_lt hgs) _
        have hbelW : Below W.heap.size W (W.alloc (.cells #[.int .u8 (b.toNat : Int)] 5)) := (Below.refl _ _).alloc (Nat.le_refl _) _
        have HCL := Lib.hid hcell
        have HBL := Lib.hid hbel
        have HBW := Lib.hid hbelW
        clear hcell hbel hbelW
        rw [HX.out]
        go_wp2_with (first
          | (at_builtin; refine wpList_append_one _ rfl _ _ rfl w2.heap.size w2.heap.size s.size c s.data.toList rfl (HR.out.kept HBW.out) (Nat.le_refl _) (Nat.le_trans (Nat.le_of_lt hgs) HBL.out.size) (fun j h1 h2 => ⟨by rw [HBW.out.cell (p := ⟨w2.heap.size, j, none⟩) hgs]; exact (HSP.out j h1 h2).1, by rw [HBW.out.frozen (p := ⟨w2.heap.size, j, none⟩) hgs]; exact (HSP.out j h1 h2).2⟩) b W.heap.size rfl HCL.out (by omega) (Nat.lt_of_lt_of_le hgs HBL.out.size) ?_)
          | go_in)
        intro A' c' w4 hc' hr' hb'
        have HR4 := Lib.hid hr'
        have HB4 := Lib.hid (HB2.out.trans (((HB23.out.trans HBL.out).trans hb').mono HB2.out.size))
        have HC4 := Lib.hid hc'
        clear hr' hb' hc' hgs hcv
        go_wp2_with fail
        refine (HS.out.scan A' (s.size + 1) c' (s.data.toList ++ [b]) 0 _ HR4.out HC4.out).mono ?_
        unfold scanOut
        obtain ⟨⟨r1, r2⟩, hr⟩ : ∃ t, nscan (s.data.toList ++ [b]) 0 = t := ⟨_, rfl⟩
        have HSC : Hid ((r1, r2) = if okB s.data.toList.length b.toNat = true then (if 255 < s.data.toList.length + 1 then (0, 12) else (((s.data.toList.length + 1 : Nat) : Int), 0)) else (((s.data.toList.length : Nat) : Int), 0)) := by
          unfold Hid; rw [← hr]; exact scan_snoc HN.out b
        rw [hr]
        clear hr
        rintro e w5 ⟨rfl, hb5⟩
        have HB5 := Lib.hid (HB4.out.trans (hb5.mono HB4.out.size))
        clear hb5
        have HGK : Hid (isName (s.extract 0 k).data.toList = true) := by
          unfold Hid; rw [take_text]; exact isName_take HN.out k hk0 (by rw [← HL.out]; exact hk1)
        have HZK : Hid ((s.extract 0 k).size ≤ maxLen) := by
          have := HM.out; unfold Hid; simp; omega
        go_wp2_with fail
        refine (HS.out.good _ _ HZK.out).mono ?_
        rw [HGK.out]
        rintro e w7 ⟨rfl, hb7⟩
        replace HB5 := Lib.hid (HB5.out.trans (hb7.mono HB5.out.size))
        clear hb7
        have HX0 : Hid (0 ≤ (b.toNat : Int)) := by unfold Hid; omega
        have HX1 : Hid ((b.toNat : Int) ≤ 255) := by have := b.toNat_lt; unfold Hid; omega
        have HLP : Hid (0 < s.data.toList.length) := by unfold Hid; rw [← HL.out]; omega
        cases hf : fstB (b.toNat : Int)
        · have HF := Lib.hid hf; clear hf
          by_cases h45 : (b.toNat : Int) = 45
          · have HOK := Lib.hid ((okB_iff s.data.toList.length _).2 (.inr ⟨HLP.out, .inl h45⟩))
            have q1 : ((b.toNat : Int) == 45) = true := by rw [h45]; rfl
            clear h45
            go_wp2_with fail
            refine (ref_first_any _ _ HX0.out HX1.out).mono ?_
            rintro e w6 ⟨rfl, rfl⟩
            rw [HF.out]
            by_cases hl : 255 < s.data.toList.length + 1
            · have HSC2 : Hid (r1 = 0 ∧ r2 = 12) := by
                have := HSC.out; rw [if_pos HOK.out, if_pos hl] at this; exact ⟨congrArg Prod.fst this, congrArg Prod.snd this⟩
              have b1 : (r1 == (s.size : Int) + 1) = false := by rw [HSC2.out.1]; simp; omega
              have b2 : (r2 == 0) = false := by rw [HSC2.out.2]; rfl
              clear hl
              go_wp2
              go_ret
              exact ⟨rfl, HB5.out⟩
            · have HSC2 : Hid (r1 = (s.size : Int) + 1 ∧ r2 = 0) := by
                have := HSC.out; rw [if_pos HOK.out, if_neg hl] at this; exact ⟨(congrArg Prod.fst this).trans (by rw [HL.out]; rfl), congrArg Prod.snd this⟩
              have b1 : (r1 == (s.size : Int) + 1) = true := by rw [HSC2.out.1]; simp
              have b2 : (r2 == 0) = true := by rw [HSC2.out.2]; rfl
              clear hl
              go_wp2
              go_ret
              exact ⟨rfl, HB5.out⟩
          · have q1 : ((b.toNat : Int) == 45) = false := by simp only [beq_eq_false_iff_ne]; exact h45
            have H45 := Lib.hid h45; clear h45
            by_cases h95 : (b.toNat : Int) = 95
            · have HOK := Lib.hid ((okB_iff s.data.toList.length _).2 (.inr ⟨HLP.out, .inr (.inl h95)⟩))
              have q2 : ((b.toNat : Int) == 95) = true := by rw [h95]; rfl
              clear h95
              go_wp2_with fail
              refine (ref_first_any _ _ HX0.out HX1.out).mono ?_
              rintro e w6 ⟨rfl, rfl⟩
              rw [HF.out]
              by_cases hl : 255 < s.data.toList.length + 1
              · have HSC2 : Hid (r1 = 0 ∧ r2 = 12) := by
                  have := HSC.out; rw [if_pos HOK.out, if_pos hl] at this; exact ⟨congrArg Prod.fst this, congrArg Prod.snd this⟩
                have b1 : (r1 == (s.size : Int) + 1) = false := by rw [HSC2.out.1]; simp; omega
                have b2 : (r2 == 0) = false := by rw [HSC2.out.2]; rfl
                clear hl
                go_wp2
                go_ret
                exact ⟨rfl, HB5.out⟩
              · have HSC2 : Hid (r1 = (s.size : Int) + 1 ∧ r2 = 0) := by
                  have := HSC.out; rw [if_pos HOK.out, if_neg hl] at this; exact ⟨(congrArg Prod.fst this).trans (by rw [HL.out]; rfl), congrArg Prod.snd this⟩
                have b1 : (r1 == (s.size : Int) + 1) = true := by rw [HSC2.out.1]; simp
                have b2 : (r2 == 0) = true := by rw [HSC2.out.2]; rfl
                clear hl
                go_wp2
                go_ret
                exact ⟨rfl, HB5.out⟩
            · have q2 : ((b.toNat : Int) == 95) = false := by simp only [beq_eq_false_iff_ne]; exact h95
              have H95 := Lib.hid h95; clear h95
              by_cases h46 : (b.toNat : Int) = 46
              · have HOK := Lib.hid ((okB_iff s.data.toList.length _).2 (.inr ⟨HLP.out, .inr (.inr h46)⟩))
                have q3 : ((b.toNat : Int) == 46) = true := by rw [h46]; rfl
                clear h46
                go_wp2_with fail
                refine (ref_first_any _ _ HX0.out HX1.out).mono ?_
                rintro e w6 ⟨rfl, rfl⟩
                rw [HF.out]
                by_cases hl : 255 < s.data.toList.length + 1
                · have HSC2 : Hid (r1 = 0 ∧ r2 = 12) := by
                    have := HSC.out; rw [if_pos HOK.out, if_pos hl] at this; exact ⟨congrArg Prod.fst this, congrArg Prod.snd this⟩
                  have b1 : (r1 == (s.size : Int) + 1) = false := by rw [HSC2.out.1]; simp; omega
                  have b2 : (r2 == 0) = false := by rw [HSC2.out.2]; rfl
                  clear hl
                  go_wp2
                  go_ret
                  exact ⟨rfl, HB5.out⟩
                · have HSC2 : Hid (r1 = (s.size : Int) + 1 ∧ r2 = 0) := by
                    have := HSC.out; rw [if_pos HOK.out, if_neg hl] at this; exact ⟨(congrArg Prod.fst this).trans (by rw [HL.out]; rfl), congrArg Prod.snd this⟩
                  have b1 : (r1 == (s.size : Int) + 1) = true := by rw [HSC2.out.1]; simp
                  have b2 : (r2 == 0) = true := by rw [HSC2.out.2]; rfl
                  clear hl
                  go_wp2
                  go_ret
                  exact ⟨rfl, HB5.out⟩
              · have HOK : Hid (¬ okB s.data.toList.length (b.toNat : Int) = true) := by
                  unfold Hid; rw [okB_iff]
                  rintro (h | ⟨_, h | h | h⟩)
                  · rw [HF.out] at h; cases h
                  · exact H45.out h
                  · exact H95.out h
                  · exact h46 h
                have q3 : ((b.toNat : Int) == 46) = false := by simp only [beq_eq_false_iff_ne]; exact h46
                clear h46
                go_wp2_with fail
                refine (ref_first_any _ _ HX0.out HX1.out).mono ?_
                rintro e w6 ⟨rfl, rfl⟩
                rw [HF.out]
                have HSC2 : Hid (r1 = (s.size : Int) ∧ r2 = 0) := by
                  have := HSC.out; rw [if_neg HOK.out] at this; exact ⟨(congrArg Prod.fst this).trans (by rw [HL.out]), congrArg Prod.snd this⟩
                have b1 : (r1 == (s.size : Int)) = true := by rw [HSC2.out.1]; simp
                have b2 : (r2 == 0) = true := by rw [HSC2.out.2]; rfl
                go_wp2
                go_ret
                exact ⟨rfl, HB5.out⟩
        · have HF := Lib.hid hf
          have HOK := Lib.hid ((okB_iff s.data.toList.length _).2 (.inl hf)); clear hf
          go_wp2_with fail
          refine (ref_first_any _ _ HX0.out HX1.out).mono ?_
          rintro e w6 ⟨rfl, rfl⟩
          rw [HF.out]
          by_cases hl : 255 < s.data.toList.length + 1
          · have HSC2 : Hid (r1 = 0 ∧ r2 = 12) := by
              have := HSC.out; rw [if_pos HOK.out, if_pos hl] at this; exact ⟨congrArg Prod.fst this, congrArg Prod.snd this⟩
            have b1 : (r1 == (s.size : Int) + 1) = false := by rw [HSC2.out.1]; simp; omega
            have b2 : (r2 == 0) = false := by rw [HSC2.out.2]; rfl
            clear hl
            go_wp2
            go_ret
            exact ⟨rfl, HB5.out⟩
          · have HSC2 : Hid (r1 = (s.size : Int) + 1 ∧ r2 = 0) := by
              have := HSC.out; rw [if_pos HOK.out, if_neg hl] at this; exact ⟨(congrArg Prod.fst this).trans (by rw [HL.out]; rfl), congrArg Prod.snd this⟩
            have b1 : (r1 == (s.size : Int) + 1) = true := by rw [HSC2.out.1]; simp
            have b2 : (r2 == 0) = true := by rw [HSC2.out.2]; rfl
            clear hl
            go_wp2
            go_ret
            exact ⟨rfl, HB5.out⟩
end Go.Proofs.Ytpgfolfhfhfdhaa.Name
