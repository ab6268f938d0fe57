/-
  The statements' own look at the document's examples (ferrulelaw03.awake) answers true and writes nothing that was there. No condition.
-/
import Derived.Test.YtfimjmikmbkkgaaDoorSvRead
namespace Go.Proofs.YtfimjmikmbkkgaaDoor.Semver
open Go.RowKit Num Ident

theorem ex_whole : vread (⟨#[49, 46, 50, 46, 51, 45, 114, 99, 46, 49, 43, 98]⟩ : ByteArray).data.toList = (0, 0, ⟨1, 2, 3, [[114, 99], [49]], [[98]]⟩) := by decide +kernel
theorem ex_short : vread (⟨#[49, 46, 50]⟩ : ByteArray).data.toList = (2, 3, noVer) := by decide +kernel

set_option maxRecDepth 100000 in
set_option maxHeartbeats 1600000 in
theorem awake_any (w : World) :
    Calls Tryd.prog 5 #[] w fun e w' => e = .returned (.bool true) ∧ Below w.heap.size w w' := by
  go_enter Tryd.func5, Tryd.ntmps5
  go_wp2_with fail
  refine (read_any _ _ (by unfold maxLen; decide)).mono ?_
  rw [ex_whole]
  rintro e w1 ⟨A1, c1, B1, d1, rfl, _, _, _, _, hb1⟩
  have HB1 := Lib.hid hb1
  have hz1 := hb1.size
  clear hb1
  have HBA := Lib.hid (HB1.out.alloc hz1 (.cells #[.int .u64 1, .int .u64 2, .int .u64 3, .slice A1 2 c1, .slice B1 1 d1] 25))
  have H5 := Lib.hid (At5.new w1 25 (.int .u64 1) (.int .u64 2) (.int .u64 3) (.slice A1 2 c1) (.slice B1 1 d1))
  go_wp2_with fail
  refine (read_any _ _ (by unfold maxLen; decide)).mono ?_
  rw [ex_short]
  rintro e w2 ⟨A2, c2, B2, d2, rfl, _, _, _, _, hb2⟩
  have H5' := Lib.hid (H5.out.kept hb2 (by simp))
  have HB2 := Lib.hid (HBA.out.trans (hb2.mono (by simp; omega)))
  have hz2 := HB2.out.size
  clear hb2
  obtain ⟨hl, hf, g0, g1, g2, g3, g4⟩ := H5'.out
  go_wp2
  go_ret
  exact ⟨rfl, HB2.out.alloc hz2 _⟩
end Go.Proofs.YtfimjmikmbkkgaaDoor.Semver
