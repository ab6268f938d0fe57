/-
  The statements' own look at the document's examples (ferrulelaw02.awake) answers true and writes nothing that was there. No condition.
-/
import Derived.Test.YtnnmhamiegekpaaDoorIdRow
import Derived.Test.YtnnmhamiegekpaaDoorIdCmp
namespace Go.Proofs.YtnnmhamiegekpaaDoor.Ident
open Go.RowKit Num

theorem ex_alpha : row [97, 108, 112, 104, 97, 46, 49, 43, 120] 0 true = (0, 7, [[97, 108, 112, 104, 97], [49]]) := by decide +kernel
theorem ex_101 : row [49, 46, 48, 49] 0 true = (3, 0, []) := by decide +kernel
theorem ex_9 : cmpId (⟨#[57]⟩ : ByteArray).data.toList (⟨#[49, 48]⟩ : ByteArray).data.toList = -1 := by decide +kernel
theorem ex_10 : cmpId (⟨#[49, 48]⟩ : ByteArray).data.toList (⟨#[97]⟩ : ByteArray).data.toList = -1 := by decide +kernel

set_option maxHeartbeats 800000 in
theorem awake_any (w : World) :
    Calls Tryd.prog 7 #[] w fun e w' => e = .returned (.bool true) ∧ Below w.heap.size w w' := by
  have kc := fun (w : World) (C : Array Value) (n c : Nat) => Lib.run_convert_bytes_const (P := Tryd.prog) w 22 5 C n c Tryd.underlying22 Tryd.underlying5
  have R1 := fun W : World => Row.new W [97, 108, 112, 104, 97, 46, 49, 43, 120] #[.int .u8 97, .int .u8 108, .int .u8 112, .int .u8 104, .int .u8 97, .int .u8 46, .int .u8 49, .int .u8 43, .int .u8 120] 5 (9, 10) rfl (by unfold maxLen; decide)
  have R2 := fun W : World => Row.new W [49, 46, 48, 49] #[.int .u8 49, .int .u8 46, .int .u8 48, .int .u8 49] 5 (4, 5) rfl (by unfold maxLen; decide)
  have H1 := Lib.hid R1
  have H2 := Lib.hid R2
  clear R1 R2
  go_enter Tryd.func7, Tryd.ntmps7
  go_wp2_with fail
  refine (row_any _ 9 9 [97, 108, 112, 104, 97, 46, 49, 43, 120] 0 true _ (H1.out _) (by omega)).mono ?_
  rw [ex_alpha]
  rintro e w1 ⟨A1, c1, rfl, _, _, hb1⟩
  have HB1 := Lib.hid (((Below.refl w.heap.size w).alloc (Nat.le_refl _) _).trans (hb1.mono (by simp)))
  clear hb1
  have hz1 := HB1.out.size
  go_wp2_with fail
  refine (row_any _ 4 4 [49, 46, 48, 49] 0 true _ (H2.out _) (by omega)).mono ?_
  rw [ex_101]
  rintro e w2 ⟨A2, c2, rfl, _, _, hb2⟩
  have HB2 := Lib.hid ((HB1.out.alloc hz1 _).trans (hb2.mono (by simp; omega)))
  clear hb2
  have hz2 := HB2.out.size
  go_wp2_with fail
  refine (idcmp_any _ _ _ (by unfold maxLen; decide) (by unfold maxLen; decide)).mono ?_
  rw [ex_9]
  rintro e w3 ⟨rfl, hb3⟩
  have HB3 := Lib.hid (HB2.out.trans (hb3.mono hz2))
  clear hb3
  have hz3 := HB3.out.size
  go_wp2_with fail
  refine (idcmp_any _ _ _ (by unfold maxLen; decide) (by unfold maxLen; decide)).mono ?_
  rw [ex_10]
  rintro e w4 ⟨rfl, hb4⟩
  have HB4 := Lib.hid (HB3.out.trans (hb4.mono hz3))
  clear hb4
  go_wp2
  go_ret
  exact ⟨rfl, HB4.out⟩
end Go.Proofs.YtnnmhamiegekpaaDoor.Ident
