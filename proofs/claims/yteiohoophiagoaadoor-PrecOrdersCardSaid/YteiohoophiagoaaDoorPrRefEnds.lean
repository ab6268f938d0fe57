/-
  The document's own first of a core and its own ends (ferruleref04.First, Tilde, Caret). No condition.
-/
import Derived.Test.YteiohoophiagoaaDoorPrCaret
namespace Go.Proofs.YteiohoophiagoaaDoor.Prec
open Go.RowKit Num Ident Semver

set_option maxHeartbeats 800000 in
theorem refFirst_int (p q r : Int) (w : World) :
    Calls Tryd.prog 14 #[.int .u64 p, .int .u64 q, .int .u64 r] w (FirstZ w p q r) := by
  go_enter Tryd.func14, Tryd.ntmps14
  go_wp2
  refine bodyPost_ret (v := .agg #[.int .u64 p, .int .u64 q, .int .u64 r, .slice (some ⟨w.heap.size + 1, 0, none⟩) 1 1, .slice none 0 0]) (by simp [results, Tryd.results14, go_sem]) rfl ?_
  refine ⟨some ⟨w.heap.size + 1, 0, none⟩, rfl, ?_, ((Below.refl _ _).alloc (Nat.le_refl _) _).alloc (by simp) _⟩
  have := SRow.one (w.alloc (.cells #[.int .u64 p, .int .u64 q, .int .u64 r, .slice (some ⟨w.heap.size + 1, 0, none⟩) 1 1, .slice none 0 0] 25)) [48]
  rw [size_alloc] at this; exact this
set_option maxRecDepth 100000 in
set_option maxHeartbeats 1600000 in
theorem refTilde_yes (p q r : Int) (X Y : Value) (w : World) (h0 : 0 ≤ q) (h1 : q < 9223372036854775807) :
    Calls Tryd.prog 11 #[.agg #[.int .u64 p, .int .u64 q, .int .u64 r, X, Y]] w (EndZ w p (q + 1) 0) := by
  have HB0 : Hid (Below w.heap.size w ((w.alloc (.cells #[.int .u64 p, .int .u64 q, .int .u64 r, X, Y] 25)).alloc (.cells #[.int .u64 0, .int .u64 0, .int .u64 0, .slice none 0 0, .slice none 0 0] 25))) := ((Below.refl _ _).alloc (Nat.le_refl _) _).alloc (by simp) _
  have K1 : Hid (At5 ((w.alloc (.cells #[.int .u64 p, .int .u64 q, .int .u64 r, X, Y] 25)).alloc (.cells #[.int .u64 0, .int .u64 0, .int .u64 0, .slice none 0 0, .slice none 0 0] 25)) w.heap.size (.int .u64 p) (.int .u64 q) (.int .u64 r) (X) (Y)) := (At5.new w 25 _ _ _ _ _).kept ((Below.refl _ _).alloc (Nat.le_refl _) _) (by simp)
  have K2 : Hid (At5 ((w.alloc (.cells #[.int .u64 p, .int .u64 q, .int .u64 r, X, Y] 25)).alloc (.cells #[.int .u64 0, .int .u64 0, .int .u64 0, .slice none 0 0, .slice none 0 0] 25)) (w.heap.size + 1) (.int .u64 0) (.int .u64 0) (.int .u64 0) (.slice none 0 0) (.slice none 0 0)) := by
    have := At5.new (w.alloc (.cells #[.int .u64 p, .int .u64 q, .int .u64 r, X, Y] 25)) 25 (.int .u64 0) (.int .u64 0) (.int .u64 0) (.slice none 0 0) (.slice none 0 0)
    rw [size_alloc] at this; exact this
  go_enter Tryd.func11, Tryd.ntmps11
  go_upto_region 1 with (fail)
  generalize ((w.alloc (.cells #[.int .u64 p, .int .u64 q, .int .u64 r, X, Y] 25)).alloc (.cells #[.int .u64 0, .int .u64 0, .int .u64 0, .slice none 0 0, .slice none 0 0] 25)) = W at HB0 K1 K2 ⊢
  obtain ⟨hz0, _, x0, x1, x2, x3, x4⟩ := K1.out
  obtain ⟨hz1, _, y0, y1, y2, y3, y4⟩ := K2.out
  go_wp2_with fail
  refine (refFirst_int _ _ _ _).mono ?_
  rintro e w3 ⟨A, rfl, hr, hb3⟩
  have N2 := Lib.hid (K2.out.kept hb3 hz1)
  have B3 := Lib.hid (HB0.out.trans (hb3.mono (by omega)))
  obtain ⟨hz3, hf, g0, g1, g2, g3, g4⟩ := N2.out
  have R := Lib.hid (hr.set5 g0 g1 g2 g3 g4 (by simp) (by simp) (by simp) (by simp) (by simp) (.int .u64 p) (.int .u64 (q + 1)) (.int .u64 0) (.slice A 1 1) (.slice none 0 0))
  have B4 : Hid (Below w.heap.size w (set5 w3 (w.heap.size + 1) (.int .u64 p) (.int .u64 (q + 1)) (.int .u64 0) (.slice A 1 1) (.slice none 0 0))) := (((((B3.out.setCell (by simp) _).setCell (by simp) _).setCell (by simp) _).setCell (by simp) _).setCell (by simp) _)
  have N3 := Lib.hid (N2.out.set5 (.int .u64 p) (.int .u64 (q + 1)) (.int .u64 0) (.slice A 1 1) (.slice none 0 0))
  clear hr hb3 x0 x1 x2 x3 x4 y0 y1 y2 y3 y4
  unfold set5 at B4 N3
  go_wp2
  generalize (((((w3.setCell ⟨w.heap.size + 1, 0, none⟩ (.int .u64 p)).setCell ⟨w.heap.size + 1, 1, none⟩ (.int .u64 (q + 1))).setCell ⟨w.heap.size + 1, 2, none⟩ (.int .u64 0)).setCell ⟨w.heap.size + 1, 3, none⟩ (.slice A 1 1)).setCell ⟨w.heap.size + 1, 4, none⟩ (.slice none 0 0)) = w4 at R B4 N3 ⊢
  obtain ⟨_, _, z0, z1, z2, z3, z4⟩ := N3.out
  exact bodyPost_ret (v := .tuple #[.agg #[.int .u64 p, .int .u64 (q + 1), .int .u64 0, .slice A 1 1, .slice none 0 0], .bool true]) (by simp [results, Tryd.results11, go_sem, z0, z1, z2, z3, z4]) rfl ⟨A, rfl, R.out, B4.out⟩

set_option maxRecDepth 100000 in
set_option maxHeartbeats 1600000 in
theorem refTilde_no (p q r : Int) (X Y : Value) (w : World) (h1 : 9223372036854775807 ≤ q) :
    Calls Tryd.prog 11 #[.agg #[.int .u64 p, .int .u64 q, .int .u64 r, X, Y]] w (NoneZ w) := by
  have HB0 : Hid (Below w.heap.size w ((w.alloc (.cells #[.int .u64 p, .int .u64 q, .int .u64 r, X, Y] 25)).alloc (.cells #[.int .u64 0, .int .u64 0, .int .u64 0, .slice none 0 0, .slice none 0 0] 25))) := ((Below.refl _ _).alloc (Nat.le_refl _) _).alloc (by simp) _
  have K1 : Hid (At5 ((w.alloc (.cells #[.int .u64 p, .int .u64 q, .int .u64 r, X, Y] 25)).alloc (.cells #[.int .u64 0, .int .u64 0, .int .u64 0, .slice none 0 0, .slice none 0 0] 25)) w.heap.size (.int .u64 p) (.int .u64 q) (.int .u64 r) (X) (Y)) := (At5.new w 25 _ _ _ _ _).kept ((Below.refl _ _).alloc (Nat.le_refl _) _) (by simp)
  have K2 : Hid (At5 ((w.alloc (.cells #[.int .u64 p, .int .u64 q, .int .u64 r, X, Y] 25)).alloc (.cells #[.int .u64 0, .int .u64 0, .int .u64 0, .slice none 0 0, .slice none 0 0] 25)) (w.heap.size + 1) (.int .u64 0) (.int .u64 0) (.int .u64 0) (.slice none 0 0) (.slice none 0 0)) := by
    have := At5.new (w.alloc (.cells #[.int .u64 p, .int .u64 q, .int .u64 r, X, Y] 25)) 25 (.int .u64 0) (.int .u64 0) (.int .u64 0) (.slice none 0 0) (.slice none 0 0)
    rw [size_alloc] at this; exact this
  go_enter Tryd.func11, Tryd.ntmps11
  go_wp2
  exact bodyPost_ret (v := .tuple #[.agg #[.int .u64 0, .int .u64 0, .int .u64 0, .slice none 0 0, .slice none 0 0], .bool false]) (by simp [results, Tryd.results11, go_sem]) rfl ⟨rfl, HB0.out⟩

theorem refTilde_any (v : Ver) (A : Option Addr) (c : Nat) (B : Option Addr) (d : Nat) (w : World) :
    Calls Tryd.prog 11 #[.agg #[.int .u64 (v.a : Int), .int .u64 (v.b : Int), .int .u64 (v.c : Int), .slice A v.pre.length c, .slice B v.build.length d]] w (EndPost w (tildeV v)) := by
  unfold tildeV
  by_cases h : (9223372036854775807 : Int) ≤ (v.b : Int)
  · rw [end_1_no h]
    exact (refTilde_no _ _ _ _ _ w h).mono fun e w' hk => EndPost.of_none hk
  · rw [end_1_yes (by omega)]
    exact (refTilde_yes _ _ _ _ _ w (by omega) (by omega)).mono fun e w' hk => EndPost.of_end hk (by omega) (by omega) (by omega)

set_option maxRecDepth 100000 in
set_option maxHeartbeats 1600000 in
theorem refCaret_a (p q r : Int) (X Y : Value) (w : World) (h0 : 0 < p) (h1 : p < 9223372036854775807) :
    Calls Tryd.prog 10 #[.agg #[.int .u64 p, .int .u64 q, .int .u64 r, X, Y]] w (EndZ w (p + 1) 0 0) := by
  have HB0 : Hid (Below w.heap.size w ((w.alloc (.cells #[.int .u64 p, .int .u64 q, .int .u64 r, X, Y] 25)).alloc (.cells #[.int .u64 0, .int .u64 0, .int .u64 0, .slice none 0 0, .slice none 0 0] 25))) := ((Below.refl _ _).alloc (Nat.le_refl _) _).alloc (by simp) _
  have K1 : Hid (At5 ((w.alloc (.cells #[.int .u64 p, .int .u64 q, .int .u64 r, X, Y] 25)).alloc (.cells #[.int .u64 0, .int .u64 0, .int .u64 0, .slice none 0 0, .slice none 0 0] 25)) w.heap.size (.int .u64 p) (.int .u64 q) (.int .u64 r) (X) (Y)) := (At5.new w 25 _ _ _ _ _).kept ((Below.refl _ _).alloc (Nat.le_refl _) _) (by simp)
  have K2 : Hid (At5 ((w.alloc (.cells #[.int .u64 p, .int .u64 q, .int .u64 r, X, Y] 25)).alloc (.cells #[.int .u64 0, .int .u64 0, .int .u64 0, .slice none 0 0, .slice none 0 0] 25)) (w.heap.size + 1) (.int .u64 0) (.int .u64 0) (.int .u64 0) (.slice none 0 0) (.slice none 0 0)) := by
    have := At5.new (w.alloc (.cells #[.int .u64 p, .int .u64 q, .int .u64 r, X, Y] 25)) 25 (.int .u64 0) (.int .u64 0) (.int .u64 0) (.slice none 0 0) (.slice none 0 0)
    rw [size_alloc] at this; exact this
  go_enter Tryd.func10, Tryd.ntmps10
  go_upto_region 1 with (fail)
  generalize ((w.alloc (.cells #[.int .u64 p, .int .u64 q, .int .u64 r, X, Y] 25)).alloc (.cells #[.int .u64 0, .int .u64 0, .int .u64 0, .slice none 0 0, .slice none 0 0] 25)) = W at HB0 K1 K2 ⊢
  obtain ⟨hz0, _, x0, x1, x2, x3, x4⟩ := K1.out
  obtain ⟨hz1, _, y0, y1, y2, y3, y4⟩ := K2.out
  go_wp2_with fail
  refine (refFirst_int _ _ _ _).mono ?_
  rintro e w3 ⟨A, rfl, hr, hb3⟩
  have N2 := Lib.hid (K2.out.kept hb3 hz1)
  have B3 := Lib.hid (HB0.out.trans (hb3.mono (by omega)))
  obtain ⟨hz3, hf, g0, g1, g2, g3, g4⟩ := N2.out
  have R := Lib.hid (hr.set5 g0 g1 g2 g3 g4 (by simp) (by simp) (by simp) (by simp) (by simp) (.int .u64 (p + 1)) (.int .u64 0) (.int .u64 0) (.slice A 1 1) (.slice none 0 0))
  have B4 : Hid (Below w.heap.size w (set5 w3 (w.heap.size + 1) (.int .u64 (p + 1)) (.int .u64 0) (.int .u64 0) (.slice A 1 1) (.slice none 0 0))) := (((((B3.out.setCell (by simp) _).setCell (by simp) _).setCell (by simp) _).setCell (by simp) _).setCell (by simp) _)
  have N3 := Lib.hid (N2.out.set5 (.int .u64 (p + 1)) (.int .u64 0) (.int .u64 0) (.slice A 1 1) (.slice none 0 0))
  clear hr hb3 x0 x1 x2 x3 x4 y0 y1 y2 y3 y4
  unfold set5 at B4 N3
  go_wp2
  generalize (((((w3.setCell ⟨w.heap.size + 1, 0, none⟩ (.int .u64 (p + 1))).setCell ⟨w.heap.size + 1, 1, none⟩ (.int .u64 0)).setCell ⟨w.heap.size + 1, 2, none⟩ (.int .u64 0)).setCell ⟨w.heap.size + 1, 3, none⟩ (.slice A 1 1)).setCell ⟨w.heap.size + 1, 4, none⟩ (.slice none 0 0)) = w4 at R B4 N3 ⊢
  obtain ⟨_, _, z0, z1, z2, z3, z4⟩ := N3.out
  exact bodyPost_ret (v := .tuple #[.agg #[.int .u64 (p + 1), .int .u64 0, .int .u64 0, .slice A 1 1, .slice none 0 0], .bool true]) (by simp [results, Tryd.results10, go_sem, z0, z1, z2, z3, z4]) rfl ⟨A, rfl, R.out, B4.out⟩

set_option maxRecDepth 100000 in
set_option maxHeartbeats 1600000 in
theorem refCaret_na (p q r : Int) (X Y : Value) (w : World) (h0 : 0 < p) (h1 : 9223372036854775807 ≤ p) :
    Calls Tryd.prog 10 #[.agg #[.int .u64 p, .int .u64 q, .int .u64 r, X, Y]] w (NoneZ w) := by
  have HB0 : Hid (Below w.heap.size w ((w.alloc (.cells #[.int .u64 p, .int .u64 q, .int .u64 r, X, Y] 25)).alloc (.cells #[.int .u64 0, .int .u64 0, .int .u64 0, .slice none 0 0, .slice none 0 0] 25))) := ((Below.refl _ _).alloc (Nat.le_refl _) _).alloc (by simp) _
  have K1 : Hid (At5 ((w.alloc (.cells #[.int .u64 p, .int .u64 q, .int .u64 r, X, Y] 25)).alloc (.cells #[.int .u64 0, .int .u64 0, .int .u64 0, .slice none 0 0, .slice none 0 0] 25)) w.heap.size (.int .u64 p) (.int .u64 q) (.int .u64 r) (X) (Y)) := (At5.new w 25 _ _ _ _ _).kept ((Below.refl _ _).alloc (Nat.le_refl _) _) (by simp)
  have K2 : Hid (At5 ((w.alloc (.cells #[.int .u64 p, .int .u64 q, .int .u64 r, X, Y] 25)).alloc (.cells #[.int .u64 0, .int .u64 0, .int .u64 0, .slice none 0 0, .slice none 0 0] 25)) (w.heap.size + 1) (.int .u64 0) (.int .u64 0) (.int .u64 0) (.slice none 0 0) (.slice none 0 0)) := by
    have := At5.new (w.alloc (.cells #[.int .u64 p, .int .u64 q, .int .u64 r, X, Y] 25)) 25 (.int .u64 0) (.int .u64 0) (.int .u64 0) (.slice none 0 0) (.slice none 0 0)
    rw [size_alloc] at this; exact this
  go_enter Tryd.func10, Tryd.ntmps10
  go_wp2
  exact bodyPost_ret (v := .tuple #[.agg #[.int .u64 0, .int .u64 0, .int .u64 0, .slice none 0 0, .slice none 0 0], .bool false]) (by simp [results, Tryd.results10, go_sem]) rfl ⟨rfl, HB0.out⟩

set_option maxRecDepth 100000 in
set_option maxHeartbeats 1600000 in
theorem refCaret_c (p q r : Int) (X Y : Value) (w : World) (h0 : p ≤ 0) (h2 : q ≤ 0) (h3 : 0 ≤ r) (h1 : r < 9223372036854775807) :
    Calls Tryd.prog 10 #[.agg #[.int .u64 p, .int .u64 q, .int .u64 r, X, Y]] w (EndZ w 0 0 (r + 1)) := by
  have HB0 : Hid (Below w.heap.size w ((w.alloc (.cells #[.int .u64 p, .int .u64 q, .int .u64 r, X, Y] 25)).alloc (.cells #[.int .u64 0, .int .u64 0, .int .u64 0, .slice none 0 0, .slice none 0 0] 25))) := ((Below.refl _ _).alloc (Nat.le_refl _) _).alloc (by simp) _
  have K1 : Hid (At5 ((w.alloc (.cells #[.int .u64 p, .int .u64 q, .int .u64 r, X, Y] 25)).alloc (.cells #[.int .u64 0, .int .u64 0, .int .u64 0, .slice none 0 0, .slice none 0 0] 25)) w.heap.size (.int .u64 p) (.int .u64 q) (.int .u64 r) (X) (Y)) := (At5.new w 25 _ _ _ _ _).kept ((Below.refl _ _).alloc (Nat.le_refl _) _) (by simp)
  have K2 : Hid (At5 ((w.alloc (.cells #[.int .u64 p, .int .u64 q, .int .u64 r, X, Y] 25)).alloc (.cells #[.int .u64 0, .int .u64 0, .int .u64 0, .slice none 0 0, .slice none 0 0] 25)) (w.heap.size + 1) (.int .u64 0) (.int .u64 0) (.int .u64 0) (.slice none 0 0) (.slice none 0 0)) := by
    have := At5.new (w.alloc (.cells #[.int .u64 p, .int .u64 q, .int .u64 r, X, Y] 25)) 25 (.int .u64 0) (.int .u64 0) (.int .u64 0) (.slice none 0 0) (.slice none 0 0)
    rw [size_alloc] at this; exact this
  go_enter Tryd.func10, Tryd.ntmps10
  go_upto_region 1 with (fail)
  generalize ((w.alloc (.cells #[.int .u64 p, .int .u64 q, .int .u64 r, X, Y] 25)).alloc (.cells #[.int .u64 0, .int .u64 0, .int .u64 0, .slice none 0 0, .slice none 0 0] 25)) = W at HB0 K1 K2 ⊢
  obtain ⟨hz0, _, x0, x1, x2, x3, x4⟩ := K1.out
  obtain ⟨hz1, _, y0, y1, y2, y3, y4⟩ := K2.out
  go_wp2_with fail
  refine (refFirst_int _ _ _ _).mono ?_
  rintro e w3 ⟨A, rfl, hr, hb3⟩
  have N2 := Lib.hid (K2.out.kept hb3 hz1)
  have B3 := Lib.hid (HB0.out.trans (hb3.mono (by omega)))
  obtain ⟨hz3, hf, g0, g1, g2, g3, g4⟩ := N2.out
  have R := Lib.hid (hr.set5 g0 g1 g2 g3 g4 (by simp) (by simp) (by simp) (by simp) (by simp) (.int .u64 0) (.int .u64 0) (.int .u64 (r + 1)) (.slice A 1 1) (.slice none 0 0))
  have B4 : Hid (Below w.heap.size w (set5 w3 (w.heap.size + 1) (.int .u64 0) (.int .u64 0) (.int .u64 (r + 1)) (.slice A 1 1) (.slice none 0 0))) := (((((B3.out.setCell (by simp) _).setCell (by simp) _).setCell (by simp) _).setCell (by simp) _).setCell (by simp) _)
  have N3 := Lib.hid (N2.out.set5 (.int .u64 0) (.int .u64 0) (.int .u64 (r + 1)) (.slice A 1 1) (.slice none 0 0))
  clear hr hb3 x0 x1 x2 x3 x4 y0 y1 y2 y3 y4
  unfold set5 at B4 N3
  go_wp2
  generalize (((((w3.setCell ⟨w.heap.size + 1, 0, none⟩ (.int .u64 0)).setCell ⟨w.heap.size + 1, 1, none⟩ (.int .u64 0)).setCell ⟨w.heap.size + 1, 2, none⟩ (.int .u64 (r + 1))).setCell ⟨w.heap.size + 1, 3, none⟩ (.slice A 1 1)).setCell ⟨w.heap.size + 1, 4, none⟩ (.slice none 0 0)) = w4 at R B4 N3 ⊢
  obtain ⟨_, _, z0, z1, z2, z3, z4⟩ := N3.out
  exact bodyPost_ret (v := .tuple #[.agg #[.int .u64 0, .int .u64 0, .int .u64 (r + 1), .slice A 1 1, .slice none 0 0], .bool true]) (by simp [results, Tryd.results10, go_sem, z0, z1, z2, z3, z4]) rfl ⟨A, rfl, R.out, B4.out⟩

set_option maxRecDepth 100000 in
set_option maxHeartbeats 1600000 in
theorem refCaret_nc (p q r : Int) (X Y : Value) (w : World) (h0 : p ≤ 0) (h2 : q ≤ 0) (h1 : 9223372036854775807 ≤ r) :
    Calls Tryd.prog 10 #[.agg #[.int .u64 p, .int .u64 q, .int .u64 r, X, Y]] w (NoneZ w) := by
  have HB0 : Hid (Below w.heap.size w ((w.alloc (.cells #[.int .u64 p, .int .u64 q, .int .u64 r, X, Y] 25)).alloc (.cells #[.int .u64 0, .int .u64 0, .int .u64 0, .slice none 0 0, .slice none 0 0] 25))) := ((Below.refl _ _).alloc (Nat.le_refl _) _).alloc (by simp) _
  have K1 : Hid (At5 ((w.alloc (.cells #[.int .u64 p, .int .u64 q, .int .u64 r, X, Y] 25)).alloc (.cells #[.int .u64 0, .int .u64 0, .int .u64 0, .slice none 0 0, .slice none 0 0] 25)) w.heap.size (.int .u64 p) (.int .u64 q) (.int .u64 r) (X) (Y)) := (At5.new w 25 _ _ _ _ _).kept ((Below.refl _ _).alloc (Nat.le_refl _) _) (by simp)
  have K2 : Hid (At5 ((w.alloc (.cells #[.int .u64 p, .int .u64 q, .int .u64 r, X, Y] 25)).alloc (.cells #[.int .u64 0, .int .u64 0, .int .u64 0, .slice none 0 0, .slice none 0 0] 25)) (w.heap.size + 1) (.int .u64 0) (.int .u64 0) (.int .u64 0) (.slice none 0 0) (.slice none 0 0)) := by
    have := At5.new (w.alloc (.cells #[.int .u64 p, .int .u64 q, .int .u64 r, X, Y] 25)) 25 (.int .u64 0) (.int .u64 0) (.int .u64 0) (.slice none 0 0) (.slice none 0 0)
    rw [size_alloc] at this; exact this
  go_enter Tryd.func10, Tryd.ntmps10
  go_wp2
  exact bodyPost_ret (v := .tuple #[.agg #[.int .u64 0, .int .u64 0, .int .u64 0, .slice none 0 0, .slice none 0 0], .bool false]) (by simp [results, Tryd.results10, go_sem]) rfl ⟨rfl, HB0.out⟩

set_option maxRecDepth 100000 in
set_option maxHeartbeats 1600000 in
theorem refCaret_b (p q r : Int) (X Y : Value) (o : Option Ver) (w : World) (h0 : p ≤ 0) (h1 : 0 < q)
    (HE : Hid (∀ W, Calls Tryd.prog 11 #[.agg #[.int .u64 p, .int .u64 q, .int .u64 r, X, Y]] W (EndPost W o))) :
    Calls Tryd.prog 10 #[.agg #[.int .u64 p, .int .u64 q, .int .u64 r, X, Y]] w (EndPost w o) := by
  have HB0 : Hid (Below w.heap.size w ((w.alloc (.cells #[.int .u64 p, .int .u64 q, .int .u64 r, X, Y] 25)).alloc (.cells #[.int .u64 0, .int .u64 0, .int .u64 0, .slice none 0 0, .slice none 0 0] 25))) := ((Below.refl _ _).alloc (Nat.le_refl _) _).alloc (by simp) _
  have K1 : Hid (At5 ((w.alloc (.cells #[.int .u64 p, .int .u64 q, .int .u64 r, X, Y] 25)).alloc (.cells #[.int .u64 0, .int .u64 0, .int .u64 0, .slice none 0 0, .slice none 0 0] 25)) w.heap.size (.int .u64 p) (.int .u64 q) (.int .u64 r) (X) (Y)) := (At5.new w 25 _ _ _ _ _).kept ((Below.refl _ _).alloc (Nat.le_refl _) _) (by simp)
  have K2 : Hid (At5 ((w.alloc (.cells #[.int .u64 p, .int .u64 q, .int .u64 r, X, Y] 25)).alloc (.cells #[.int .u64 0, .int .u64 0, .int .u64 0, .slice none 0 0, .slice none 0 0] 25)) (w.heap.size + 1) (.int .u64 0) (.int .u64 0) (.int .u64 0) (.slice none 0 0) (.slice none 0 0)) := by
    have := At5.new (w.alloc (.cells #[.int .u64 p, .int .u64 q, .int .u64 r, X, Y] 25)) 25 (.int .u64 0) (.int .u64 0) (.int .u64 0) (.slice none 0 0) (.slice none 0 0)
    rw [size_alloc] at this; exact this
  have HP' : Hid (∀ e w', EndIs w (verOf o) o.isSome e w' → EndPost w o e w') := fun _ _ h => h
  go_enter Tryd.func10, Tryd.ntmps10
  go_upto_region 1 with (fail)
  generalize ((w.alloc (.cells #[.int .u64 p, .int .u64 q, .int .u64 r, X, Y] 25)).alloc (.cells #[.int .u64 0, .int .u64 0, .int .u64 0, .slice none 0 0, .slice none 0 0] 25)) = W at HB0 K1 K2 ⊢
  obtain ⟨hz0, _, x0, x1, x2, x3, x4⟩ := K1.out
  obtain ⟨hz1, _, y0, y1, y2, y3, y4⟩ := K2.out
  go_wp2_with fail
  refine (HE.out _).mono ?_
  rintro e w3 ⟨A', c', rfl, hr, hbu, hb3⟩
  have HU := Lib.hid hbu
  generalize verOf o = x at hr HU HP' ⊢
  generalize o.isSome = s at HP' ⊢
  have N2 := Lib.hid (K2.out.kept hb3 hz1)
  have B3 := Lib.hid (HB0.out.trans (hb3.mono (by omega)))
  obtain ⟨hz3, hf, g0, g1, g2, g3, g4⟩ := N2.out
  have R := Lib.hid (hr.set5 g0 g1 g2 g3 g4 (by simp) (by simp) (by simp) (by simp) (by simp) (.int .u64 (x.a : Int)) (.int .u64 (x.b : Int)) (.int .u64 (x.c : Int)) (.slice A' x.pre.length c') (.slice none x.build.length 0))
  have B4 : Hid (Below w.heap.size w (set5 w3 (w.heap.size + 1) (.int .u64 (x.a : Int)) (.int .u64 (x.b : Int)) (.int .u64 (x.c : Int)) (.slice A' x.pre.length c') (.slice none x.build.length 0))) := (((((B3.out.setCell (by simp) _).setCell (by simp) _).setCell (by simp) _).setCell (by simp) _).setCell (by simp) _)
  have N3 := Lib.hid (N2.out.set5 (.int .u64 (x.a : Int)) (.int .u64 (x.b : Int)) (.int .u64 (x.c : Int)) (.slice A' x.pre.length c') (.slice none x.build.length 0))
  clear hr hb3 x0 x1 x2 x3 x4 y0 y1 y2 y3 y4
  unfold set5 at B4 N3
  go_wp2
  generalize (((((w3.setCell ⟨w.heap.size + 1, 0, none⟩ (.int .u64 (x.a : Int))).setCell ⟨w.heap.size + 1, 1, none⟩ (.int .u64 (x.b : Int))).setCell ⟨w.heap.size + 1, 2, none⟩ (.int .u64 (x.c : Int))).setCell ⟨w.heap.size + 1, 3, none⟩ (.slice A' x.pre.length c')).setCell ⟨w.heap.size + 1, 4, none⟩ (.slice none x.build.length 0)) = w4 at R B4 N3 ⊢
  obtain ⟨_, _, z0, z1, z2, z3, z4⟩ := N3.out
  exact bodyPost_ret (v := .tuple #[.agg #[.int .u64 (x.a : Int), .int .u64 (x.b : Int), .int .u64 (x.c : Int), .slice A' x.pre.length c', .slice none x.build.length 0], .bool s]) (by simp [results, Tryd.results10, go_sem, z0, z1, z2, z3, z4]) rfl (HP'.out _ _ ⟨A', c', rfl, R.out, HU.out, B4.out⟩)

theorem refCaret_any (v : Ver) (A : Option Addr) (c : Nat) (B : Option Addr) (d : Nat) (w : World) :
    Calls Tryd.prog 10 #[.agg #[.int .u64 (v.a : Int), .int .u64 (v.b : Int), .int .u64 (v.c : Int), .slice A v.pre.length c, .slice B v.build.length d]] w (EndPost w (caretV v)) := by
  by_cases h0 : v.a = 0
  · by_cases h1 : v.b = 0
    · rw [caret_2 h0 h1]
      by_cases h : (9223372036854775807 : Int) ≤ (v.c : Int)
      · rw [end_2_no h]
        exact (refCaret_nc _ _ _ _ _ w (by omega) (by omega) h).mono fun e w' hk => EndPost.of_none hk
      · rw [end_2_yes (by omega)]
        exact (refCaret_c _ _ _ _ _ w (by omega) (by omega) (by omega) (by omega)).mono fun e w' hk => EndPost.of_end hk (by omega) (by omega) (by omega)
    · have e : caretV v = tildeV v := caret_1 h0 h1
      rw [e]
      exact refCaret_b _ _ _ _ _ _ w (by omega) (by omega) (Lib.hid fun W => refTilde_any v A c B d W)
  · rw [caret_0 h0]
    by_cases h : (9223372036854775807 : Int) ≤ (v.a : Int)
    · rw [end_0_no h]
      exact (refCaret_na _ _ _ _ _ w (by omega) h).mono fun e w' hk => EndPost.of_none hk
    · rw [end_0_yes (by omega)]
      exact (refCaret_a _ _ _ _ _ w (by omega) (by omega)).mono fun e w' hk => EndPost.of_end hk (by omega) (by omega) (by omega)
theorem FirstZ.post {w : World} {x y z : Nat} {e : Ending} {w' : World} (h : FirstZ w (x : Int) (y : Int) (z : Int) e w') : FirstPost w (firstV x y z) e w' := by
  obtain ⟨A, rfl, h1, hb⟩ := h
  exact ⟨A, 1, rfl, h1, rfl, hb⟩
theorem first_any (x y z : Nat) (w : World) : Calls Tryd.prog 13 #[.int .u64 (x : Int), .int .u64 (y : Int), .int .u64 (z : Int)] w (FirstPost w (firstV x y z)) :=
  (first_int x y z w).mono fun _ _ h => h.post
theorem refFirst_any (x y z : Nat) (w : World) : Calls Tryd.prog 14 #[.int .u64 (x : Int), .int .u64 (y : Int), .int .u64 (z : Int)] w (FirstPost w (firstV x y z)) :=
  (refFirst_int x y z w).mono fun _ _ h => h.post
end Go.Proofs.YteiohoophiagoaaDoor.Prec
