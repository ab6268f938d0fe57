/-
  Versions read from texts (semver.Read), for any text. Condition: the text's length is one that the form allows.
-/
import Derived.Test.YtfimjmikmbkkgaaDoorSvParse
import Derived.Test.YtfimjmikmbkkgaaDoorNumIs
import Derived.Deep.CutBlock
import Derived.Deep.DeepCutAuto
namespace Go.Proofs.YtfimjmikmbkkgaaDoor.Semver
open Go.RowKit Num Ident

set_option maxRecDepth 100000 in
set_option maxHeartbeats 1600000 in
theorem read_any (s : ByteArray) (w : World) (hs : s.size ≤ maxLen) :
    Calls Tryd.prog 13 #[.string s] w (VerPost w (vread s.data.toList)) := by
  have HL := Lib.hid (Lib.size_eq s)
  obtain ⟨cc, W, hcc, hcv, hr, hb⟩ := run_bytes (w.alloc (.cells #[.int .u64 0, .int .u64 0, .int .u64 0, .slice none 0 0, .slice none 0 0] 25)) s hs
  have HV : Hid (At5 W w.heap.size (.int .u64 0) (.int .u64 0) (.int .u64 0) (.slice none 0 0) (.slice none 0 0)) := (At5.new w 25 _ _ _ _ _).kept hb (by simp)
  have HB : Hid (Below w.heap.size w W) := ((Below.refl w.heap.size w).alloc (Nat.le_refl _) _).trans (hb.mono (by simp))
  have hz : w.heap.size + 1 ≤ W.heap.size := by have := hb.size; simpa using this
  rw [size_alloc] at hr hcv
  have HR := Lib.hid hr
  unfold maxLen at hs
  clear hr hb
  generalize s.data.toList = l at HL HR
  have HQ := Lib.hid (vparse_end l 0)
  have HP := Lib.hid (fun A n c W hW hc => parse_any A n c l 0 W hW hc)
  have HI : Hid (vread l = if (vparse l 0).1 ≠ 0 then ((vparse l 0).1, (vparse l 0).2.1, noVer) else if (vparse l 0).2.1 ≠ l.length then (13, (vparse l 0).2.1, noVer) else (0, 0, (vparse l 0).2.2)) := rfl
  obtain ⟨⟨f, q, ⟨x, y, z, xs, ys⟩⟩, hk⟩ : ∃ t, vparse l 0 = t := ⟨_, rfl⟩
  rw [hk] at HP HI HQ
  clear hk
  have hq : q ≤ s.size := by have := HQ.out; rw [← HL.out] at this; exact this
  go_enter Tryd.func13, Tryd.ntmps13
  go_wp2_with fail
  refine (HP.out _ _ _ _ HR.out hcc).mono ?_
  rintro e w1 ⟨A2, c2, A3, c3, rfl, hc2, hc3, hr2, hr3, hb1⟩
  simp only at hc2 hc3 hr2 hr3 ⊢
  have HV1 := Lib.hid (HV.out.kept hb1 (by omega))
  have HB1 := Lib.hid (HB.out.trans (hb1.mono (by omega)))
  have hz1 := hb1.size
  obtain ⟨hvl, hvf, hv0, hv1, hv2, hv3, hv4⟩ := HV1.out
  have HA := Lib.hid (hr2.set5 hv0 hv1 hv2 hv3 hv4 (by simp) (by simp) (by simp) (by simp) (by simp) (.int .u64 (x : Int)) (.int .u64 (y : Int)) (.int .u64 (z : Int)) (.slice A2 xs.length c2) (.slice A3 ys.length c3))
  have HB' := Lib.hid (hr3.set5 hv0 hv1 hv2 hv3 hv4 (by simp) (by simp) (by simp) (by simp) (by simp) (.int .u64 (x : Int)) (.int .u64 (y : Int)) (.int .u64 (z : Int)) (.slice A2 xs.length c2) (.slice A3 ys.length c3))
  have HV2 := Lib.hid (HV1.out.set5 (.int .u64 (x : Int)) (.int .u64 (y : Int)) (.int .u64 (z : Int)) (.slice A2 xs.length c2) (.slice A3 ys.length c3))
  have HB2 : Hid (Below w.heap.size w (set5 w1 w.heap.size (.int .u64 (x : Int)) (.int .u64 (y : Int)) (.int .u64 (z : Int)) (.slice A2 xs.length c2) (.slice A3 ys.length c3))) := (((((HB1.out.setCell (by simp) _).setCell (by simp) _).setCell (by simp) _).setCell (by simp) _).setCell (by simp) _)
  clear hr2 hr3 hb1 HV HB hcv
  go_upto_region 2 with (fail)
  clear hvl hvf hv0 hv1 hv2 hv3 hv4 HV1 HB1
  unfold set5 at HV2 HB2
  generalize ((((w1.setCell ⟨w.heap.size, 0, none⟩ (.int .u64 (x : Int))).setCell ⟨w.heap.size, 1, none⟩ (.int .u64 (y : Int))).setCell ⟨w.heap.size, 2, none⟩ (.int .u64 (z : Int))).setCell ⟨w.heap.size, 3, none⟩ (.slice A2 xs.length c2)).setCell ⟨w.heap.size, 4, none⟩ (.slice A3 ys.length c3) = w2 at HA HB' HV2 HB2 ⊢
  obtain ⟨hvl, hvf, hv0, hv1, hv2, hv3, hv4⟩ := HV2.out
  by_cases h0 : f = 0
  · subst h0
    by_cases h1 : q = s.size
    · have HI2 : Hid (vread l = (0, 0, ⟨x, y, z, xs, ys⟩)) := HI.out.trans ((if_neg (by simp)).trans (if_neg (by rw [← HL.out]; simpa using h1)))
      have hb1 : ((q : Int) != (s.size : Int)) = false := by simp [h1]
      have HA2 := Lib.hid (HA.out.set5 hv0 hv1 hv2 hv3 hv4 (by simp) (by simp) (by simp) (by simp) (by simp) (.int .u64 (x : Int)) (.int .u64 (y : Int)) (.int .u64 (z : Int)) (.slice A2 xs.length c2) (.slice A3 ys.length c3))
      have HB3 := Lib.hid (HB'.out.set5 hv0 hv1 hv2 hv3 hv4 (by simp) (by simp) (by simp) (by simp) (by simp) (.int .u64 (x : Int)) (.int .u64 (y : Int)) (.int .u64 (z : Int)) (.slice A2 xs.length c2) (.slice A3 ys.length c3))
      clear h1 HI
      go_wp2
      exact bodyPost_ret (v := .tuple #[.agg #[.int .u64 (x : Int), .int .u64 (y : Int), .int .u64 (z : Int), .slice A2 xs.length c2, .slice A3 ys.length c3], .int .i64 0, .int .i64 0]) (by simp [results, Tryd.results13, go_sem, hv0, hv1, hv2, hv3, hv4]) rfl (by rw [HI2.out]; exact ⟨A2, c2, A3, c3, rfl, hc2, hc3, HA2.out, HB3.out, (((((HB2.out.setCell (by simp) _).setCell (by simp) _).setCell (by simp) _).setCell (by simp) _).setCell (by simp) _)⟩)
    · have HI2 : Hid (vread l = (13, q, noVer)) := HI.out.trans ((if_neg (by simp)).trans (if_pos (by rw [← HL.out]; exact h1)))
      have hb1 : ((q : Int) != (s.size : Int)) = true := by simp; omega
      clear h1 HI
      go_wp2
      exact bodyPost_ret (v := .tuple #[.agg #[.int .u64 0, .int .u64 0, .int .u64 0, .slice none 0 0, .slice none 0 0], .int .i64 (q : Int), .int .i64 13]) (by simp [results, Tryd.results13, go_sem, hv0, hv1, hv2, hv3, hv4]) rfl (by rw [HI2.out]; exact VerPost.bad (f := 13) (((((HB2.out.setCell (by simp) _).setCell (by simp) _).setCell (by simp) _).setCell (by simp) _).setCell (by simp) _))
  · have HI2 : Hid (vread l = (f, q, noVer)) := HI.out.trans (if_pos h0)
    have hb1 : ((f : Int) != 0) = true := by simp [h0]
    have hb2 : ((f : Int) == 0) = false := by simp [h0]
    clear h0 HI
    go_wp2
    exact bodyPost_ret (v := .tuple #[.agg #[.int .u64 0, .int .u64 0, .int .u64 0, .slice none 0 0, .slice none 0 0], .int .i64 (q : Int), .int .i64 (f : Int)]) (by simp [results, Tryd.results13, go_sem, hv0, hv1, hv2, hv3, hv4]) rfl (by rw [HI2.out]; exact VerPost.bad (((((HB2.out.setCell (by simp) _).setCell (by simp) _).setCell (by simp) _).setCell (by simp) _).setCell (by simp) _))
end Go.Proofs.YtfimjmikmbkkgaaDoor.Semver
