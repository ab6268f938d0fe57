/-
  What the document tells of versions (the law's own awake): true. No condition.
-/
import Derived.Test.YteiohoophiagoaaDoorPrCmp
import Derived.Test.YteiohoophiagoaaDoorPrRefEnds
import Derived.Test.YteiohoophiagoaaDoorSvRefText
namespace Go.Proofs.YteiohoophiagoaaDoor.Prec
open Go.RowKit Num Ident Semver

theorem SRow.two (w : World) (l m : List UInt8) : SRow (w.alloc (.cells #[.string (mk l), .string (mk m)] 9)) (some ⟨w.heap.size, 0, none⟩) 2 [l, m] := by
  refine ⟨rfl, fun _ => ⟨w.heap.size, 0, rfl, by simp, fun j hj => ?_⟩⟩
  have hh : (w.alloc (.cells #[.string (mk l), .string (mk m)] 9)).heap[w.heap.size]? = some (.cells #[.string (mk l), .string (mk m)] 9) := by
    show (w.heap.push _)[w.heap.size]? = _
    simp
  match j, hj with
  | 0, _ => exact cell_of_row _ _ _ #[.string (mk l), .string (mk m)] _ _ hh
  | 1, _ => exact cell_of_row _ _ _ #[.string (mk l), .string (mk m)] _ _ hh
def vRc (l : List UInt8) : Ver := ⟨1, 0, 0, [[114, 99], l], []⟩
theorem fit_rc (l : List UInt8) (h : l.length ≤ 300) : Fit [[114, 99], l] := ⟨by unfold maxLen; simp, fun x hx => by
  simp at hx
  rcases hx with rfl | rfl
  · unfold maxLen; simp
  · unfold maxLen; omega⟩
theorem told_1 : cmpV (vRc [50]) (vRc [49, 48]) = -1 := by decide +kernel
theorem told_2 : cmpV (vRc [49, 48]) ⟨1, 0, 0, [], []⟩ = -1 := by decide +kernel
theorem told_3 : caretV ⟨0, 2, 3, [], []⟩ = some (firstV 0 3 0) := by decide +kernel
theorem told_4 : vtext (firstV 0 3 0) = [48, 46, 51, 46, 48, 45, 48] := by decide +kernel

set_option maxRecDepth 100000 in
set_option maxHeartbeats 3200000 in
theorem awake_any (w : World) : Calls Tryd.prog 6 #[] w fun e w' => e = .returned (.bool true) ∧ Below w.heap.size w w' := by
  have HCar : Hid (∀ W, Calls Tryd.prog 8 #[.agg #[.int .u64 0, .int .u64 2, .int .u64 3, .slice none 0 0, .slice none 0 0]] W fun e w' => ∃ A c, e = .returned (.tuple #[.agg #[.int .u64 0, .int .u64 3, .int .u64 0, .slice A 1 c, .slice none 0 0], .bool true]) ∧ SRow w' A 1 [[48]] ∧ Below W.heap.size W w') := fun W => by
    have k := caret_any ⟨0, 2, 3, [], []⟩ none 0 none 0 W
    rw [told_3] at k
    refine Calls.mono k ?_
    rintro e w' ⟨A, c, rfl, hr, _, hb⟩
    exact ⟨A, c, rfl, hr, hb⟩
  have HC1 : Hid (∀ (A B : Option Addr) W, SRow W A 2 [[114, 99], [50]] → SRow W B 2 [[114, 99], [49, 48]] → Calls Tryd.prog 16 #[.agg #[.int .u64 1, .int .u64 0, .int .u64 0, .slice A 2 2, .slice none 0 0], .agg #[.int .u64 1, .int .u64 0, .int .u64 0, .slice B 2 2, .slice none 0 0]] W fun e w' => e = .returned (.int .i64 (-1)) ∧ Below W.heap.size W w') := fun A B W h1 h2 => by
    have k := compare_any (vRc [50]) (vRc [49, 48]) A none B none 2 0 2 0 W h1 h2 (fit_rc _ (by simp)) (fit_rc _ (by simp))
    rw [told_1] at k
    exact k
  have HC2 : Hid (∀ (B : Option Addr) W, SRow W B 2 [[114, 99], [49, 48]] → Calls Tryd.prog 16 #[.agg #[.int .u64 1, .int .u64 0, .int .u64 0, .slice B 2 2, .slice none 0 0], .agg #[.int .u64 1, .int .u64 0, .int .u64 0, .slice none 0 0, .slice none 0 0]] W fun e w' => e = .returned (.int .i64 (-1)) ∧ Below W.heap.size W w') := fun B W h1 => by
    have k := compare_any (vRc [49, 48]) ⟨1, 0, 0, [], []⟩ B none none none 2 0 0 0 W h1 (SRow.none_ _ _) (fit_rc _ (by simp)) Fit.nil
    rw [told_2] at k
    exact k
  have HTx : Hid (∀ (A : Option Addr) (c : Nat) W, SRow W A 1 [[48]] → Calls Tryd.prog 18 #[.agg #[.int .u64 0, .int .u64 3, .int .u64 0, .slice A 1 c, .slice none 0 0]] W fun e w' => e = .returned (.string ⟨#[48, 46, 51, 46, 48, 45, 48]⟩) ∧ Below W.heap.size W w') := fun A c W h1 => by
    have k := refText_any (firstV 0 3 0) A c none 0 W (by decide) (by decide) (by decide) h1 (SRow.none_ _ _) (by decide) (by decide)
    rw [told_4] at k
    exact k
  have HB0 : Hid (Below w.heap.size w ((((w.alloc (.cells #[.string ⟨#[114, 99]⟩, .string ⟨#[50]⟩] 9)).alloc (.cells #[.int .u64 1, .int .u64 0, .int .u64 0, .slice (some ⟨w.heap.size, 0, none⟩) 2 2, .slice none 0 0] 25)).alloc (.cells #[.string ⟨#[114, 99]⟩, .string ⟨#[49, 48]⟩] 9)).alloc (.cells #[.int .u64 1, .int .u64 0, .int .u64 0, .slice (some ⟨w.heap.size + 1 + 1, 0, none⟩) 2 2, .slice none 0 0] 25))) := ((((Below.refl _ _).alloc (Nat.le_refl _) _).alloc (by simp) _).alloc (by simp; omega) _).alloc (by simp; omega) _
  have R1 : Hid (SRow ((((w.alloc (.cells #[.string ⟨#[114, 99]⟩, .string ⟨#[50]⟩] 9)).alloc (.cells #[.int .u64 1, .int .u64 0, .int .u64 0, .slice (some ⟨w.heap.size, 0, none⟩) 2 2, .slice none 0 0] 25)).alloc (.cells #[.string ⟨#[114, 99]⟩, .string ⟨#[49, 48]⟩] 9)).alloc (.cells #[.int .u64 1, .int .u64 0, .int .u64 0, .slice (some ⟨w.heap.size + 1 + 1, 0, none⟩) 2 2, .slice none 0 0] 25)) (some ⟨w.heap.size, 0, none⟩) 2 [[114, 99], [50]]) :=
    (((SRow.two w [114, 99] [50]).kept ((Below.refl _ _).alloc (Nat.le_refl _) _)).kept ((Below.refl _ _).alloc (Nat.le_refl _) _)).kept ((Below.refl _ _).alloc (Nat.le_refl _) _)
  have R2 : Hid (SRow ((((w.alloc (.cells #[.string ⟨#[114, 99]⟩, .string ⟨#[50]⟩] 9)).alloc (.cells #[.int .u64 1, .int .u64 0, .int .u64 0, .slice (some ⟨w.heap.size, 0, none⟩) 2 2, .slice none 0 0] 25)).alloc (.cells #[.string ⟨#[114, 99]⟩, .string ⟨#[49, 48]⟩] 9)).alloc (.cells #[.int .u64 1, .int .u64 0, .int .u64 0, .slice (some ⟨w.heap.size + 1 + 1, 0, none⟩) 2 2, .slice none 0 0] 25)) (some ⟨w.heap.size + 1 + 1, 0, none⟩) 2 [[114, 99], [49, 48]]) := by
    have k := (SRow.two ((w.alloc (.cells #[.string ⟨#[114, 99]⟩, .string ⟨#[50]⟩] 9)).alloc (.cells #[.int .u64 1, .int .u64 0, .int .u64 0, .slice (some ⟨w.heap.size, 0, none⟩) 2 2, .slice none 0 0] 25)) [114, 99] [49, 48]).kept ((Below.refl _ _).alloc (Nat.le_refl _) (.cells #[.int .u64 1, .int .u64 0, .int .u64 0, .slice (some ⟨w.heap.size + 1 + 1, 0, none⟩) 2 2, .slice none 0 0] 25))
    rw [size_alloc, size_alloc] at k
    exact k
  have K1 : Hid (At5 ((((w.alloc (.cells #[.string ⟨#[114, 99]⟩, .string ⟨#[50]⟩] 9)).alloc (.cells #[.int .u64 1, .int .u64 0, .int .u64 0, .slice (some ⟨w.heap.size, 0, none⟩) 2 2, .slice none 0 0] 25)).alloc (.cells #[.string ⟨#[114, 99]⟩, .string ⟨#[49, 48]⟩] 9)).alloc (.cells #[.int .u64 1, .int .u64 0, .int .u64 0, .slice (some ⟨w.heap.size + 1 + 1, 0, none⟩) 2 2, .slice none 0 0] 25)) (w.heap.size + 1) (.int .u64 1) (.int .u64 0) (.int .u64 0) (.slice (some ⟨w.heap.size, 0, none⟩) 2 2) (.slice none 0 0)) := by
    have k := ((At5.new (w.alloc (.cells #[.string ⟨#[114, 99]⟩, .string ⟨#[50]⟩] 9)) 25 (.int .u64 1) (.int .u64 0) (.int .u64 0) (.slice (some ⟨w.heap.size, 0, none⟩) 2 2) (.slice none 0 0)).kept ((Below.refl _ _).alloc (Nat.le_refl _) (.cells #[.string ⟨#[114, 99]⟩, .string ⟨#[49, 48]⟩] 9)) (by simp)).kept ((Below.refl _ _).alloc (Nat.le_refl _) (.cells #[.int .u64 1, .int .u64 0, .int .u64 0, .slice (some ⟨w.heap.size + 1 + 1, 0, none⟩) 2 2, .slice none 0 0] 25)) (by simp)
    rw [size_alloc] at k
    exact k
  have K2 : Hid (At5 ((((w.alloc (.cells #[.string ⟨#[114, 99]⟩, .string ⟨#[50]⟩] 9)).alloc (.cells #[.int .u64 1, .int .u64 0, .int .u64 0, .slice (some ⟨w.heap.size, 0, none⟩) 2 2, .slice none 0 0] 25)).alloc (.cells #[.string ⟨#[114, 99]⟩, .string ⟨#[49, 48]⟩] 9)).alloc (.cells #[.int .u64 1, .int .u64 0, .int .u64 0, .slice (some ⟨w.heap.size + 1 + 1, 0, none⟩) 2 2, .slice none 0 0] 25)) (w.heap.size + 1 + 1 + 1) (.int .u64 1) (.int .u64 0) (.int .u64 0) (.slice (some ⟨w.heap.size + 1 + 1, 0, none⟩) 2 2) (.slice none 0 0)) := by
    have k := At5.new (((w.alloc (.cells #[.string ⟨#[114, 99]⟩, .string ⟨#[50]⟩] 9)).alloc (.cells #[.int .u64 1, .int .u64 0, .int .u64 0, .slice (some ⟨w.heap.size, 0, none⟩) 2 2, .slice none 0 0] 25)).alloc (.cells #[.string ⟨#[114, 99]⟩, .string ⟨#[49, 48]⟩] 9)) 25 (.int .u64 1) (.int .u64 0) (.int .u64 0) (.slice (some ⟨w.heap.size + 1 + 1, 0, none⟩) 2 2) (.slice none 0 0)
    rw [size_alloc, size_alloc, size_alloc] at k
    exact k
  go_enter Tryd.func6, Tryd.ntmps6
  go_upto_region 3 with (fail)
  generalize ((((w.alloc (.cells #[.string ⟨#[114, 99]⟩, .string ⟨#[50]⟩] 9)).alloc (.cells #[.int .u64 1, .int .u64 0, .int .u64 0, .slice (some ⟨w.heap.size, 0, none⟩) 2 2, .slice none 0 0] 25)).alloc (.cells #[.string ⟨#[114, 99]⟩, .string ⟨#[49, 48]⟩] 9)).alloc (.cells #[.int .u64 1, .int .u64 0, .int .u64 0, .slice (some ⟨w.heap.size + 1 + 1, 0, none⟩) 2 2, .slice none 0 0] 25)) = W at HB0 R1 R2 K1 K2 ⊢
  have hz := K2.out.1
  go_wp2_with fail
  refine (HCar.out _).mono ?_
  rintro e w1 ⟨A, c, rfl, hr, hb1⟩
  have hz1 := hb1.size
  have R3 := Lib.hid (hr.kept ((Below.refl w1.heap.size w1).alloc (Nat.le_refl _) (.cells #[.int .u64 0, .int .u64 3, .int .u64 0, .slice A 1 c, .slice none 0 0] 25)))
  have hbw : Below W.heap.size W (w1.alloc (.cells #[.int .u64 0, .int .u64 3, .int .u64 0, .slice A 1 c, .slice none 0 0] 25)) := hb1.alloc (by omega) _
  have R1' := Lib.hid (R1.out.kept hbw)
  have R2' := Lib.hid (R2.out.kept hbw)
  have L1 := Lib.hid (K1.out.kept hbw (by omega))
  have L2 := Lib.hid (K2.out.kept hbw (by omega))
  have L3 := Lib.hid (At5.new w1 25 (.int .u64 0) (.int .u64 3) (.int .u64 0) (.slice A 1 c) (.slice none 0 0))
  have B1 := Lib.hid (HB0.out.trans (hbw.mono HB0.out.size))
  clear hb1 hr hbw HB0 R1 R2 K1 K2
  go_upto_region 4 with (fail)
  generalize w1.alloc (.cells #[.int .u64 0, .int .u64 3, .int .u64 0, .slice A 1 c, .slice none 0 0] 25) = w2 at R3 R1' R2' L1 L2 L3 B1 ⊢
  have hz2 := L3.out.1
  obtain ⟨_, _, x0, x1, x2, x3, x4⟩ := L1.out
  obtain ⟨_, _, y0, y1, y2, y3, y4⟩ := L2.out
  obtain ⟨_, _, z0, z1, z2, z3, z4⟩ := L3.out
  go_wp2_with fail
  refine (HC1.out _ _ _ R1'.out R2'.out).mono ?_
  rintro e w3 ⟨rfl, hb3⟩
  have hz3 := hb3.size
  have M2 := Lib.hid (L2.out.kept hb3 (by omega))
  have M3 := Lib.hid (L3.out.kept hb3 (by omega))
  have R2'' := Lib.hid (R2'.out.kept hb3)
  have R3' := Lib.hid (R3.out.kept hb3)
  have B3 := Lib.hid (B1.out.trans (hb3.mono (by omega)))
  clear hb3 x0 x1 x2 x3 x4 y0 y1 y2 y3 y4 z0 z1 z2 z3 z4
  obtain ⟨_, _, y0, y1, y2, y3, y4⟩ := M2.out
  obtain ⟨_, _, z0, z1, z2, z3, z4⟩ := M3.out
  go_wp2_with fail
  refine (HC2.out _ _ R2''.out).mono ?_
  rintro e w4 ⟨rfl, hb4⟩
  have hz4 := hb4.size
  have N3 := Lib.hid (M3.out.kept hb4 (by omega))
  have R4 := Lib.hid (R3'.out.kept hb4)
  have B4 := Lib.hid (B3.out.trans (hb4.mono (by omega)))
  clear hb4 y0 y1 y2 y3 y4 z0 z1 z2 z3 z4
  obtain ⟨_, _, z0, z1, z2, z3, z4⟩ := N3.out
  go_wp2_with fail
  refine (HTx.out _ _ _ R4.out).mono ?_
  rintro e w5 ⟨rfl, hb5⟩
  have B5 := Lib.hid (B4.out.trans (hb5.mono (by omega)))
  clear hb5 z0 z1 z2 z3 z4
  go_wp2
  go_ret
  exact ⟨rfl, B5.out⟩
end Go.Proofs.YteiohoophiagoaaDoor.Prec
