/-
  What the theorem of the last text needs of these: PrRefEnds, NumZeros, IdRefCmp. Conditions: as each theorem states.
-/
import Derived.Test.YtgfbflnhjpbceaaGreatDoorHasB1
import Derived.Test.YtgfbflnhjpbceaaGreatDoorHasB2
import Derived.Test.YtgfbflnhjpbceaaGreatDoorHasB20
import Derived.Test.YtgfbflnhjpbceaaGreatDoorHasB23
import Derived.StillTailTactics
set_option maxRecDepth 100000
set_option maxHeartbeats 25600000
namespace Go.Proofs.YtgfbflnhjpbceaaGreatDoor.Prec
open Go.RowKit Num Ident Semver

theorem refFirst_int (p q r : Int) (w : World) :
  Calls Tryz.prog 101 #[.int .u64 p, .int .u64 q, .int .u64 r] w (FirstZ w p q r) := by
 go_enter Tryz.func101, Tryz.ntmps101
 go_wp2
 refine bodyPost_ret (v := .agg #[.int .u64 p, .int .u64 q, .int .u64 r, .slice (some ⟨w.heap.size + 1, 0, none⟩) 1 1, .slice none 0 0]) (by simp [results, Tryz.results101, go_sem]) rfl ?_
 refine ⟨some ⟨w.heap.size + 1, 0, none⟩, rfl, ?_, ((Below.refl _ _).alloc (Nat.le_refl _) _).alloc (by simp) _⟩
 have := SRow.one (w.alloc (.cells #[.int .u64 p, .int .u64 q, .int .u64 r, .slice (some ⟨w.heap.size + 1, 0, none⟩) 1 1, .slice none 0 0] 25)) [48]
 rw [size_alloc] at this; exact this
theorem refTilde_yes (p q r : Int) (X Y : Value) (w : World) (h0 : 0 ≤ q) (h1 : q < 9223372036854775807) :
  Calls Tryz.prog 64 #[.agg #[.int .u64 p, .int .u64 q, .int .u64 r, X, Y]] w (EndZ w p (q + 1) 0) := by
 have HB0 : Hid (Below w.heap.size w ((w.alloc (.cells #[.int .u64 p, .int .u64 q, .int .u64 r, X, Y] 25)).alloc (.cells #[.int .u64 0, .int .u64 0, .int .u64 0, .slice none 0 0, .slice none 0 0] 25))) := ((Below.refl _ _).alloc (Nat.le_refl _) _).alloc (by simp) _
 have K1 : Hid (At5 ((w.alloc (.cells #[.int .u64 p, .int .u64 q, .int .u64 r, X, Y] 25)).alloc (.cells #[.int .u64 0, .int .u64 0, .int .u64 0, .slice none 0 0, .slice none 0 0] 25)) w.heap.size (.int .u64 p) (.int .u64 q) (.int .u64 r) (X) (Y)) := (At5.new w 25 _ _ _ _ _).kept ((Below.refl _ _).alloc (Nat.le_refl _) _) (by simp)
 have K2 : Hid (At5 ((w.alloc (.cells #[.int .u64 p, .int .u64 q, .int .u64 r, X, Y] 25)).alloc (.cells #[.int .u64 0, .int .u64 0, .int .u64 0, .slice none 0 0, .slice none 0 0] 25)) (w.heap.size + 1) (.int .u64 0) (.int .u64 0) (.int .u64 0) (.slice none 0 0) (.slice none 0 0)) := by
  have := At5.new (w.alloc (.cells #[.int .u64 p, .int .u64 q, .int .u64 r, X, Y] 25)) 25 (.int .u64 0) (.int .u64 0) (.int .u64 0) (.slice none 0 0) (.slice none 0 0)
  rw [size_alloc] at this; exact this
 go_enter Tryz.func64, Tryz.ntmps64
 go_upto_region 1 with (fail)
 generalize ((w.alloc (.cells #[.int .u64 p, .int .u64 q, .int .u64 r, X, Y] 25)).alloc (.cells #[.int .u64 0, .int .u64 0, .int .u64 0, .slice none 0 0, .slice none 0 0] 25)) = W at HB0 K1 K2 ⊢
 obtain ⟨hz0, _, x0, x1, x2, x3, x4⟩ := K1.out
 obtain ⟨hz1, _, y0, y1, y2, y3, y4⟩ := K2.out
 go_wp2_with fail
 refine (refFirst_int _ _ _ _).mono ?_
 rintro e w3 ⟨A, rfl, hr, hb3⟩
 have N2 := Lib.hid (K2.out.kept hb3 hz1)
 have B3 := Lib.hid (HB0.out.trans (hb3.mono (by omega)))
 obtain ⟨hz3, hf, g0, g1, g2, g3, g4⟩ := N2.out
 have R := Lib.hid (hr.set5 g0 g1 g2 g3 g4 (by simp) (by simp) (by simp) (by simp) (by simp) (.int .u64 p) (.int .u64 (q + 1)) (.int .u64 0) (.slice A 1 1) (.slice none 0 0))
 have B4 : Hid (Below w.heap.size w (set5 w3 (w.heap.size + 1) (.int .u64 p) (.int .u64 (q + 1)) (.int .u64 0) (.slice A 1 1) (.slice none 0 0))) := (((((B3.out.setCell (by simp) _).setCell (by simp) _).setCell (by simp) _).setCell (by simp) _).setCell (by simp) _)
 have N3 := Lib.hid (N2.out.set5 (.int .u64 p) (.int .u64 (q + 1)) (.int .u64 0) (.slice A 1 1) (.slice none 0 0))
 clear hr hb3 x0 x1 x2 x3 x4 y0 y1 y2 y3 y4
 unfold set5 at B4 N3
 go_wp2
 generalize (((((w3.setCell ⟨w.heap.size + 1, 0, none⟩ (.int .u64 p)).setCell ⟨w.heap.size + 1, 1, none⟩ (.int .u64 (q + 1))).setCell ⟨w.heap.size + 1, 2, none⟩ (.int .u64 0)).setCell ⟨w.heap.size + 1, 3, none⟩ (.slice A 1 1)).setCell ⟨w.heap.size + 1, 4, none⟩ (.slice none 0 0)) = w4 at R B4 N3 ⊢
 obtain ⟨_, _, z0, z1, z2, z3, z4⟩ := N3.out
 exact bodyPost_ret (v := .tuple #[.agg #[.int .u64 p, .int .u64 (q + 1), .int .u64 0, .slice A 1 1, .slice none 0 0], .bool true]) (by simp [results, Tryz.results64, go_sem, z0, z1, z2, z3, z4]) rfl ⟨A, rfl, R.out, B4.out⟩

theorem refTilde_no (p q r : Int) (X Y : Value) (w : World) (h1 : 9223372036854775807 ≤ q) :
  Calls Tryz.prog 64 #[.agg #[.int .u64 p, .int .u64 q, .int .u64 r, X, Y]] w (NoneZ w) := by
 have HB0 : Hid (Below w.heap.size w ((w.alloc (.cells #[.int .u64 p, .int .u64 q, .int .u64 r, X, Y] 25)).alloc (.cells #[.int .u64 0, .int .u64 0, .int .u64 0, .slice none 0 0, .slice none 0 0] 25))) := ((Below.refl _ _).alloc (Nat.le_refl _) _).alloc (by simp) _
 have K1 : Hid (At5 ((w.alloc (.cells #[.int .u64 p, .int .u64 q, .int .u64 r, X, Y] 25)).alloc (.cells #[.int .u64 0, .int .u64 0, .int .u64 0, .slice none 0 0, .slice none 0 0] 25)) w.heap.size (.int .u64 p) (.int .u64 q) (.int .u64 r) (X) (Y)) := (At5.new w 25 _ _ _ _ _).kept ((Below.refl _ _).alloc (Nat.le_refl _) _) (by simp)
 have K2 : Hid (At5 ((w.alloc (.cells #[.int .u64 p, .int .u64 q, .int .u64 r, X, Y] 25)).alloc (.cells #[.int .u64 0, .int .u64 0, .int .u64 0, .slice none 0 0, .slice none 0 0] 25)) (w.heap.size + 1) (.int .u64 0) (.int .u64 0) (.int .u64 0) (.slice none 0 0) (.slice none 0 0)) := by
  have := At5.new (w.alloc (.cells #[.int .u64 p, .int .u64 q, .int .u64 r, X, Y] 25)) 25 (.int .u64 0) (.int .u64 0) (.int .u64 0) (.slice none 0 0) (.slice none 0 0)
  rw [size_alloc] at this; exact this
 go_enter Tryz.func64, Tryz.ntmps64
 go_wp2
 exact bodyPost_ret (v := .tuple #[.agg #[.int .u64 0, .int .u64 0, .int .u64 0, .slice none 0 0, .slice none 0 0], .bool false]) (by simp [results, Tryz.results64, go_sem]) rfl ⟨rfl, HB0.out⟩

theorem refTilde_any (v : Ver) (A : Option Addr) (c : Nat) (B : Option Addr) (d : Nat) (w : World) :
  Calls Tryz.prog 64 #[.agg #[.int .u64 (v.a : Int), .int .u64 (v.b : Int), .int .u64 (v.c : Int), .slice A v.pre.length c, .slice B v.build.length d]] w (EndPost w (tildeV v)) := by
 unfold tildeV
 by_cases h : (9223372036854775807 : Int) ≤ (v.b : Int)
 ·rw [end_1_no h]
  exact (refTilde_no _ _ _ _ _ w h).mono fun e w' hk => EndPost.of_none hk
 ·rw [end_1_yes (by omega)]
  exact (refTilde_yes _ _ _ _ _ w (by omega) (by omega)).mono fun e w' hk => EndPost.of_end hk (by omega) (by omega) (by omega)

theorem refCaret_a (p q r : Int) (X Y : Value) (w : World) (h0 : 0 < p) (h1 : p < 9223372036854775807) :
  Calls Tryz.prog 63 #[.agg #[.int .u64 p, .int .u64 q, .int .u64 r, X, Y]] w (EndZ w (p + 1) 0 0) := by
 have HB0 : Hid (Below w.heap.size w ((w.alloc (.cells #[.int .u64 p, .int .u64 q, .int .u64 r, X, Y] 25)).alloc (.cells #[.int .u64 0, .int .u64 0, .int .u64 0, .slice none 0 0, .slice none 0 0] 25))) := ((Below.refl _ _).alloc (Nat.le_refl _) _).alloc (by simp) _
 have K1 : Hid (At5 ((w.alloc (.cells #[.int .u64 p, .int .u64 q, .int .u64 r, X, Y] 25)).alloc (.cells #[.int .u64 0, .int .u64 0, .int .u64 0, .slice none 0 0, .slice none 0 0] 25)) w.heap.size (.int .u64 p) (.int .u64 q) (.int .u64 r) (X) (Y)) := (At5.new w 25 _ _ _ _ _).kept ((Below.refl _ _).alloc (Nat.le_refl _) _) (by simp)
 have K2 : Hid (At5 ((w.alloc (.cells #[.int .u64 p, .int .u64 q, .int .u64 r, X, Y] 25)).alloc (.cells #[.int .u64 0, .int .u64 0, .int .u64 0, .slice none 0 0, .slice none 0 0] 25)) (w.heap.size + 1) (.int .u64 0) (.int .u64 0) (.int .u64 0) (.slice none 0 0) (.slice none 0 0)) := by
  have := At5.new (w.alloc (.cells #[.int .u64 p, .int .u64 q, .int .u64 r, X, Y] 25)) 25 (.int .u64 0) (.int .u64 0) (.int .u64 0) (.slice none 0 0) (.slice none 0 0)
  rw [size_alloc] at this; exact this
 go_enter Tryz.func63, Tryz.ntmps63
 go_upto_region 1 with (fail)
 generalize ((w.alloc (.cells #[.int .u64 p, .int .u64 q, .int .u64 r, X, Y] 25)).alloc (.cells #[.int .u64 0, .int .u64 0, .int .u64 0, .slice none 0 0, .slice none 0 0] 25)) = W at HB0 K1 K2 ⊢
 obtain ⟨hz0, _, x0, x1, x2, x3, x4⟩ := K1.out
 obtain ⟨hz1, _, y0, y1, y2, y3, y4⟩ := K2.out
 go_wp2_with fail
 refine (refFirst_int _ _ _ _).mono ?_
 rintro e w3 ⟨A, rfl, hr, hb3⟩
 have N2 := Lib.hid (K2.out.kept hb3 hz1)
 have B3 := Lib.hid (HB0.out.trans (hb3.mono (by omega)))
 obtain ⟨hz3, hf, g0, g1, g2, g3, g4⟩ := N2.out
 have R := Lib.hid (hr.set5 g0 g1 g2 g3 g4 (by simp) (by simp) (by simp) (by simp) (by simp) (.int .u64 (p + 1)) (.int .u64 0) (.int .u64 0) (.slice A 1 1) (.slice none 0 0))
 have B4 : Hid (Below w.heap.size w (set5 w3 (w.heap.size + 1) (.int .u64 (p + 1)) (.int .u64 0) (.int .u64 0) (.slice A 1 1) (.slice none 0 0))) := (((((B3.out.setCell (by simp) _).setCell (by simp) _).setCell (by simp) _).setCell (by simp) _).setCell (by simp) _)
 have N3 := Lib.hid (N2.out.set5 (.int .u64 (p + 1)) (.int .u64 0) (.int .u64 0) (.slice A 1 1) (.slice none 0 0))
 clear hr hb3 x0 x1 x2 x3 x4 y0 y1 y2 y3 y4
 unfold set5 at B4 N3
 go_wp2
 generalize (((((w3.setCell ⟨w.heap.size + 1, 0, none⟩ (.int .u64 (p + 1))).setCell ⟨w.heap.size + 1, 1, none⟩ (.int .u64 0)).setCell ⟨w.heap.size + 1, 2, none⟩ (.int .u64 0)).setCell ⟨w.heap.size + 1, 3, none⟩ (.slice A 1 1)).setCell ⟨w.heap.size + 1, 4, none⟩ (.slice none 0 0)) = w4 at R B4 N3 ⊢
 obtain ⟨_, _, z0, z1, z2, z3, z4⟩ := N3.out
 exact bodyPost_ret (v := .tuple #[.agg #[.int .u64 (p + 1), .int .u64 0, .int .u64 0, .slice A 1 1, .slice none 0 0], .bool true]) (by simp [results, Tryz.results63, go_sem, z0, z1, z2, z3, z4]) rfl ⟨A, rfl, R.out, B4.out⟩

theorem refCaret_na (p q r : Int) (X Y : Value) (w : World) (h0 : 0 < p) (h1 : 9223372036854775807 ≤ p) :
  Calls Tryz.prog 63 #[.agg #[.int .u64 p, .int .u64 q, .int .u64 r, X, Y]] w (NoneZ w) := by
 have HB0 : Hid (Below w.heap.size w ((w.alloc (.cells #[.int .u64 p, .int .u64 q, .int .u64 r, X, Y] 25)).alloc (.cells #[.int .u64 0, .int .u64 0, .int .u64 0, .slice none 0 0, .slice none 0 0] 25))) := ((Below.refl _ _).alloc (Nat.le_refl _) _).alloc (by simp) _
 have K1 : Hid (At5 ((w.alloc (.cells #[.int .u64 p, .int .u64 q, .int .u64 r, X, Y] 25)).alloc (.cells #[.int .u64 0, .int .u64 0, .int .u64 0, .slice none 0 0, .slice none 0 0] 25)) w.heap.size (.int .u64 p) (.int .u64 q) (.int .u64 r) (X) (Y)) := (At5.new w 25 _ _ _ _ _).kept ((Below.refl _ _).alloc (Nat.le_refl _) _) (by simp)
 have K2 : Hid (At5 ((w.alloc (.cells #[.int .u64 p, .int .u64 q, .int .u64 r, X, Y] 25)).alloc (.cells #[.int .u64 0, .int .u64 0, .int .u64 0, .slice none 0 0, .slice none 0 0] 25)) (w.heap.size + 1) (.int .u64 0) (.int .u64 0) (.int .u64 0) (.slice none 0 0) (.slice none 0 0)) := by
  have := At5.new (w.alloc (.cells #[.int .u64 p, .int .u64 q, .int .u64 r, X, Y] 25)) 25 (.int .u64 0) (.int .u64 0) (.int .u64 0) (.slice none 0 0) (.slice none 0 0)
  rw [size_alloc] at this; exact this
 go_enter Tryz.func63, Tryz.ntmps63
 go_wp2
 exact bodyPost_ret (v := .tuple #[.agg #[.int .u64 0, .int .u64 0, .int .u64 0, .slice none 0 0, .slice none 0 0], .bool false]) (by simp [results, Tryz.results63, go_sem]) rfl ⟨rfl, HB0.out⟩

theorem refCaret_c (p q r : Int) (X Y : Value) (w : World) (h0 : p ≤ 0) (h2 : q ≤ 0) (h3 : 0 ≤ r) (h1 : r < 9223372036854775807) :
  Calls Tryz.prog 63 #[.agg #[.int .u64 p, .int .u64 q, .int .u64 r, X, Y]] w (EndZ w 0 0 (r + 1)) := by
 have HB0 : Hid (Below w.heap.size w ((w.alloc (.cells #[.int .u64 p, .int .u64 q, .int .u64 r, X, Y] 25)).alloc (.cells #[.int .u64 0, .int .u64 0, .int .u64 0, .slice none 0 0, .slice none 0 0] 25))) := ((Below.refl _ _).alloc (Nat.le_refl _) _).alloc (by simp) _
 have K1 : Hid (At5 ((w.alloc (.cells #[.int .u64 p, .int .u64 q, .int .u64 r, X, Y] 25)).alloc (.cells #[.int .u64 0, .int .u64 0, .int .u64 0, .slice none 0 0, .slice none 0 0] 25)) w.heap.size (.int .u64 p) (.int .u64 q) (.int .u64 r) (X) (Y)) := (At5.new w 25 _ _ _ _ _).kept ((Below.refl _ _).alloc (Nat.le_refl _) _) (by simp)
 have K2 : Hid (At5 ((w.alloc (.cells #[.int .u64 p, .int .u64 q, .int .u64 r, X, Y] 25)).alloc (.cells #[.int .u64 0, .int .u64 0, .int .u64 0, .slice none 0 0, .slice none 0 0] 25)) (w.heap.size + 1) (.int .u64 0) (.int .u64 0) (.int .u64 0) (.slice none 0 0) (.slice none 0 0)) := by
  have := At5.new (w.alloc (.cells #[.int .u64 p, .int .u64 q, .int .u64 r, X, Y] 25)) 25 (.int .u64 0) (.int .u64 0) (.int .u64 0) (.slice none 0 0) (.slice none 0 0)
  rw [size_alloc] at this; exact this
 go_enter Tryz.func63, Tryz.ntmps63
 go_upto_region 1 with (fail)
 generalize ((w.alloc (.cells #[.int .u64 p, .int .u64 q, .int .u64 r, X, Y] 25)).alloc (.cells #[.int .u64 0, .int .u64 0, .int .u64 0, .slice none 0 0, .slice none 0 0] 25)) = W at HB0 K1 K2 ⊢
 obtain ⟨hz0, _, x0, x1, x2, x3, x4⟩ := K1.out
 obtain ⟨hz1, _, y0, y1, y2, y3, y4⟩ := K2.out
 go_wp2_with fail
 refine (refFirst_int _ _ _ _).mono ?_
 rintro e w3 ⟨A, rfl, hr, hb3⟩
 have N2 := Lib.hid (K2.out.kept hb3 hz1)
 have B3 := Lib.hid (HB0.out.trans (hb3.mono (by omega)))
 obtain ⟨hz3, hf, g0, g1, g2, g3, g4⟩ := N2.out
 have R := Lib.hid (hr.set5 g0 g1 g2 g3 g4 (by simp) (by simp) (by simp) (by simp) (by simp) (.int .u64 0) (.int .u64 0) (.int .u64 (r + 1)) (.slice A 1 1) (.slice none 0 0))
 have B4 : Hid (Below w.heap.size w (set5 w3 (w.heap.size + 1) (.int .u64 0) (.int .u64 0) (.int .u64 (r + 1)) (.slice A 1 1) (.slice none 0 0))) := (((((B3.out.setCell (by simp) _).setCell (by simp) _).setCell (by simp) _).setCell (by simp) _).setCell (by simp) _)
 have N3 := Lib.hid (N2.out.set5 (.int .u64 0) (.int .u64 0) (.int .u64 (r + 1)) (.slice A 1 1) (.slice none 0 0))
 clear hr hb3 x0 x1 x2 x3 x4 y0 y1 y2 y3 y4
 unfold set5 at B4 N3
 go_wp2
 generalize (((((w3.setCell ⟨w.heap.size + 1, 0, none⟩ (.int .u64 0)).setCell ⟨w.heap.size + 1, 1, none⟩ (.int .u64 0)).setCell ⟨w.heap.size + 1, 2, none⟩ (.int .u64 (r + 1))).setCell ⟨w.heap.size + 1, 3, none⟩ (.slice A 1 1)).setCell ⟨w.heap.size + 1, 4, none⟩ (.slice none 0 0)) = w4 at R B4 N3 ⊢
 obtain ⟨_, _, z0, z1, z2, z3, z4⟩ := N3.out
 exact bodyPost_ret (v := .tuple #[.agg #[.int .u64 0, .int .u64 0, .int .u64 (r + 1), .slice A 1 1, .slice none 0 0], .bool true]) (by simp [results, Tryz.results63, go_sem, z0, z1, z2, z3, z4]) rfl ⟨A, rfl, R.out, B4.out⟩

theorem refCaret_nc (p q r : Int) (X Y : Value) (w : World) (h0 : p ≤ 0) (h2 : q ≤ 0) (h1 : 9223372036854775807 ≤ r) :
  Calls Tryz.prog 63 #[.agg #[.int .u64 p, .int .u64 q, .int .u64 r, X, Y]] w (NoneZ w) := by
 have HB0 : Hid (Below w.heap.size w ((w.alloc (.cells #[.int .u64 p, .int .u64 q, .int .u64 r, X, Y] 25)).alloc (.cells #[.int .u64 0, .int .u64 0, .int .u64 0, .slice none 0 0, .slice none 0 0] 25))) := ((Below.refl _ _).alloc (Nat.le_refl _) _).alloc (by simp) _
 have K1 : Hid (At5 ((w.alloc (.cells #[.int .u64 p, .int .u64 q, .int .u64 r, X, Y] 25)).alloc (.cells #[.int .u64 0, .int .u64 0, .int .u64 0, .slice none 0 0, .slice none 0 0] 25)) w.heap.size (.int .u64 p) (.int .u64 q) (.int .u64 r) (X) (Y)) := (At5.new w 25 _ _ _ _ _).kept ((Below.refl _ _).alloc (Nat.le_refl _) _) (by simp)
 have K2 : Hid (At5 ((w.alloc (.cells #[.int .u64 p, .int .u64 q, .int .u64 r, X, Y] 25)).alloc (.cells #[.int .u64 0, .int .u64 0, .int .u64 0, .slice none 0 0, .slice none 0 0] 25)) (w.heap.size + 1) (.int .u64 0) (.int .u64 0) (.int .u64 0) (.slice none 0 0) (.slice none 0 0)) := by
  have := At5.new (w.alloc (.cells #[.int .u64 p, .int .u64 q, .int .u64 r, X, Y] 25)) 25 (.int .u64 0) (.int .u64 0) (.int .u64 0) (.slice none 0 0) (.slice none 0 0)
  rw [size_alloc] at this; exact this
 go_enter Tryz.func63, Tryz.ntmps63
 go_wp2
 exact bodyPost_ret (v := .tuple #[.agg #[.int .u64 0, .int .u64 0, .int .u64 0, .slice none 0 0, .slice none 0 0], .bool false]) (by simp [results, Tryz.results63, go_sem]) rfl ⟨rfl, HB0.out⟩

theorem refCaret_b (p q r : Int) (X Y : Value) (o : Option Ver) (w : World) (h0 : p ≤ 0) (h1 : 0 < q)
  (HE : Hid (∀ W, Calls Tryz.prog 64 #[.agg #[.int .u64 p, .int .u64 q, .int .u64 r, X, Y]] W (EndPost W o))) :
  Calls Tryz.prog 63 #[.agg #[.int .u64 p, .int .u64 q, .int .u64 r, X, Y]] w (EndPost w o) := by
 have HB0 : Hid (Below w.heap.size w ((w.alloc (.cells #[.int .u64 p, .int .u64 q, .int .u64 r, X, Y] 25)).alloc (.cells #[.int .u64 0, .int .u64 0, .int .u64 0, .slice none 0 0, .slice none 0 0] 25))) := ((Below.refl _ _).alloc (Nat.le_refl _) _).alloc (by simp) _
 have K1 : Hid (At5 ((w.alloc (.cells #[.int .u64 p, .int .u64 q, .int .u64 r, X, Y] 25)).alloc (.cells #[.int .u64 0, .int .u64 0, .int .u64 0, .slice none 0 0, .slice none 0 0] 25)) w.heap.size (.int .u64 p) (.int .u64 q) (.int .u64 r) (X) (Y)) := (At5.new w 25 _ _ _ _ _).kept ((Below.refl _ _).alloc (Nat.le_refl _) _) (by simp)
 have K2 : Hid (At5 ((w.alloc (.cells #[.int .u64 p, .int .u64 q, .int .u64 r, X, Y] 25)).alloc (.cells #[.int .u64 0, .int .u64 0, .int .u64 0, .slice none 0 0, .slice none 0 0] 25)) (w.heap.size + 1) (.int .u64 0) (.int .u64 0) (.int .u64 0) (.slice none 0 0) (.slice none 0 0)) := by
  have := At5.new (w.alloc (.cells #[.int .u64 p, .int .u64 q, .int .u64 r, X, Y] 25)) 25 (.int .u64 0) (.int .u64 0) (.int .u64 0) (.slice none 0 0) (.slice none 0 0)
  rw [size_alloc] at this; exact this
 have HP' : Hid (∀ e w', EndIs w (verOf o) o.isSome e w' → EndPost w o e w') := fun _ _ h => h
 go_enter Tryz.func63, Tryz.ntmps63
 go_upto_region 1 with (fail)
 generalize ((w.alloc (.cells #[.int .u64 p, .int .u64 q, .int .u64 r, X, Y] 25)).alloc (.cells #[.int .u64 0, .int .u64 0, .int .u64 0, .slice none 0 0, .slice none 0 0] 25)) = W at HB0 K1 K2 ⊢
 obtain ⟨hz0, _, x0, x1, x2, x3, x4⟩ := K1.out
 obtain ⟨hz1, _, y0, y1, y2, y3, y4⟩ := K2.out
 go_wp2_with fail
 refine (HE.out _).mono ?_
 rintro e w3 ⟨A', c', rfl, hr, hbu, hb3⟩
 have HU := Lib.hid hbu
 generalize verOf o = x at hr HU HP' ⊢
 generalize o.isSome = s at HP' ⊢
 have N2 := Lib.hid (K2.out.kept hb3 hz1)
 have B3 := Lib.hid (HB0.out.trans (hb3.mono (by omega)))
 obtain ⟨hz3, hf, g0, g1, g2, g3, g4⟩ := N2.out
 have R := Lib.hid (hr.set5 g0 g1 g2 g3 g4 (by simp) (by simp) (by simp) (by simp) (by simp) (.int .u64 (x.a : Int)) (.int .u64 (x.b : Int)) (.int .u64 (x.c : Int)) (.slice A' x.pre.length c') (.slice none x.build.length 0))
 have B4 : Hid (Below w.heap.size w (set5 w3 (w.heap.size + 1) (.int .u64 (x.a : Int)) (.int .u64 (x.b : Int)) (.int .u64 (x.c : Int)) (.slice A' x.pre.length c') (.slice none x.build.length 0))) := (((((B3.out.setCell (by simp) _).setCell (by simp) _).setCell (by simp) _).setCell (by simp) _).setCell (by simp) _)
 have N3 := Lib.hid (N2.out.set5 (.int .u64 (x.a : Int)) (.int .u64 (x.b : Int)) (.int .u64 (x.c : Int)) (.slice A' x.pre.length c') (.slice none x.build.length 0))
 clear hr hb3 x0 x1 x2 x3 x4 y0 y1 y2 y3 y4
 unfold set5 at B4 N3
 go_wp2
 generalize (((((w3.setCell ⟨w.heap.size + 1, 0, none⟩ (.int .u64 (x.a : Int))).setCell ⟨w.heap.size + 1, 1, none⟩ (.int .u64 (x.b : Int))).setCell ⟨w.heap.size + 1, 2, none⟩ (.int .u64 (x.c : Int))).setCell ⟨w.heap.size + 1, 3, none⟩ (.slice A' x.pre.length c')).setCell ⟨w.heap.size + 1, 4, none⟩ (.slice none x.build.length 0)) = w4 at R B4 N3 ⊢
 obtain ⟨_, _, z0, z1, z2, z3, z4⟩ := N3.out
 exact bodyPost_ret (v := .tuple #[.agg #[.int .u64 (x.a : Int), .int .u64 (x.b : Int), .int .u64 (x.c : Int), .slice A' x.pre.length c', .slice none x.build.length 0], .bool s]) (by simp [results, Tryz.results63, go_sem, z0, z1, z2, z3, z4]) rfl (HP'.out _ _ ⟨A', c', rfl, R.out, HU.out, B4.out⟩)

theorem refCaret_any (v : Ver) (A : Option Addr) (c : Nat) (B : Option Addr) (d : Nat) (w : World) :
  Calls Tryz.prog 63 #[.agg #[.int .u64 (v.a : Int), .int .u64 (v.b : Int), .int .u64 (v.c : Int), .slice A v.pre.length c, .slice B v.build.length d]] w (EndPost w (caretV v)) := by
 by_cases h0 : v.a = 0
 ·by_cases h1 : v.b = 0
  ·rw [caret_2 h0 h1]
   by_cases h : (9223372036854775807 : Int) ≤ (v.c : Int)
   ·rw [end_2_no h]
    exact (refCaret_nc _ _ _ _ _ w (by omega) (by omega) h).mono fun e w' hk => EndPost.of_none hk
   ·rw [end_2_yes (by omega)]
    exact (refCaret_c _ _ _ _ _ w (by omega) (by omega) (by omega) (by omega)).mono fun e w' hk => EndPost.of_end hk (by omega) (by omega) (by omega)
  ·have e : caretV v = tildeV v := caret_1 h0 h1
   rw [e]
   exact refCaret_b _ _ _ _ _ _ w (by omega) (by omega) (Lib.hid fun W => refTilde_any v A c B d W)
 ·rw [caret_0 h0]
  by_cases h : (9223372036854775807 : Int) ≤ (v.a : Int)
  ·rw [end_0_no h]
   exact (refCaret_na _ _ _ _ _ w (by omega) h).mono fun e w' hk => EndPost.of_none hk
  ·rw [end_0_yes (by omega)]
   exact (refCaret_a _ _ _ _ _ w (by omega) (by omega)).mono fun e w' hk => EndPost.of_end hk (by omega) (by omega) (by omega)
end Go.Proofs.YtgfbflnhjpbceaaGreatDoor.Prec
namespace Go.Proofs.YtgfbflnhjpbceaaGreatDoor.Num
open Go.RowKit

def strSize : Value → Nat
 | .string s => s.size
 | _ => 0
def Zeros (l : List UInt8) (t : ByteArray) : Prop := ∃ z, t.data.toList = List.replicate z 48 ++ l
theorem zero_size (s : ByteArray) : ((⟨#[48]⟩ : ByteArray) ++ s).size = s.size + 1 := by
 rw [ByteArray.size_append]; show 1 + s.size = _; omega
theorem zero_ahead {l : List UInt8} {s : ByteArray} (h : Zeros l s) : Zeros l ((⟨#[48]⟩ : ByteArray) ++ s) := by
 obtain ⟨z, hz⟩ := h
 refine ⟨z + 1, ?_⟩
 rw [ByteArray.data_append, Array.toList_append, hz, List.replicate_succ]
 rfl
theorem zeros_val (z : Nat) (l : List UInt8) : val (List.replicate z 48 ++ l) = val l := by
 induction z with
 | zero => rfl
 | succ z ih =>
  rw [List.replicate_succ, List.cons_append, val_cons, ih]
  simp
theorem zeros_dig (z : Nat) {l : List UInt8} (h : AllDig l) : AllDig (List.replicate z 48 ++ l) := by
 intro b hb
 rw [List.mem_append] at hb
 rcases hb with hb | hb
 ·rw [List.eq_of_mem_replicate hb]; decide
 ·exact h b hb

theorem zeros_less {l r : List UInt8} {s t : ByteArray} (hl : AllDig l) (hr : AllDig r) (hs : Zeros l s) (ht : Zeros r t) (h : s.size = t.size) : (Op.bytesLess s.toList t.toList = true ↔ val l < val r) := by
 obtain ⟨y, hy⟩ := hs
 obtain ⟨z, hz⟩ := ht
 rw [Lib.size_eq, Lib.size_eq, hy, hz] at h
 rw [Lib.toList_data, Lib.toList_data, hy, hz, less_val _ _ (zeros_dig y hl) (zeros_dig z hr) h, zeros_val, zeros_val]
theorem zeros_eq {l r : List UInt8} {s t : ByteArray} (hl : AllDig l) (hr : AllDig r) (hs : Zeros l s) (ht : Zeros r t) (h : s.size = t.size) : ((s.toList == t.toList) = true ↔ val l = val r) := by
 obtain ⟨y, hy⟩ := hs
 obtain ⟨z, hz⟩ := ht
 rw [Lib.size_eq, Lib.size_eq, hy, hz] at h
 rw [Lib.toList_data, Lib.toList_data, hy, hz, beq_iff_eq]
 constructor
 ·intro e
  have := congrArg val e
  rwa [zeros_val, zeros_val] at this
 ·intro e
  exact val_inj _ _ (zeros_dig y hl) (zeros_dig z hr) h (by rw [zeros_val, zeros_val]; exact e)
end Go.Proofs.YtgfbflnhjpbceaaGreatDoor.Num
namespace Go.Proofs.YtgfbflnhjpbceaaGreatDoor.Ident
open Go.RowKit Num

theorem compare_less : ∀ (a b : List UInt8), a ≠ b → Lib.compareBytes a b = if Op.bytesLess a b = true then -1 else 1 := by
 intro a
 induction a with
 | nil =>
  intro b h
  cases b with
  | nil => exact absurd rfl h
  | cons y b => simp [Lib.compareBytes, Op.bytesLess]
 | cons x a ih =>
  intro b h
  cases b with
  | nil => simp [Lib.compareBytes, Op.bytesLess]
  | cons y b =>
   unfold Lib.compareBytes Op.bytesLess
   rcases Nat.lt_trichotomy x.toNat y.toNat with g | g | g
   ·have g1 : x < y := UInt8.lt_iff_toNat_lt.2 g
    simp [g1]
   ·have e : x = y := UInt8.toNat_inj.1 g
    subst e
    have := ih b (fun e => h (by rw [e]))
    simp [UInt8.lt_irrefl, this]
   ·have g1 : y < x := UInt8.lt_iff_toNat_lt.2 g
    have g2 : ¬ x < y := fun k => by have := UInt8.lt_iff_toNat_lt.1 k; omega
    have g3 : ¬ x = y := fun k => by subst k; exact g2 g1
    simp [g1, g2, g3]
theorem numeric_all {a : List UInt8} (h : numeric a = true) : AllDig a := all_of_run ((numeric_iff a).1 h).2
theorem cmpId_both {a b : List UInt8} (ha : numeric a = true) (hb : numeric b = true) : cmpId a b = if ordN (val a) (val b) = 0 then ordN a.length b.length else ordN (val a) (val b) := by
 unfold cmpId; rw [if_pos ha, if_pos hb]
theorem cmpId_first {a b : List UInt8} (ha : numeric a = true) (hb : numeric b = false) : cmpId a b = -1 := by
 unfold cmpId; rw [if_pos ha, if_neg (by rw [hb]; decide)]
theorem cmpId_second {a b : List UInt8} (ha : numeric a = false) (hb : numeric b = true) : cmpId a b = 1 := by
 unfold cmpId; rw [if_neg (by rw [ha]; decide), if_pos hb]
theorem cmpId_neither {a b : List UInt8} (ha : numeric a = false) (hb : numeric b = false) : cmpId a b = Lib.compareBytes a b := by
 unfold cmpId; rw [if_neg (by rw [ha]; decide), if_neg (by rw [hb]; decide)]

theorem refCmp_any (s t : ByteArray) (w : World) (hs : s.size ≤ 1000) (ht : t.size ≤ 1000) :
  Calls Tryz.prog 125 #[.string s, .string t] w fun e w' => e = .returned (.int .i64 (cmpId s.data.toList t.data.toList)) ∧ w = w' := by
 by_cases hst : s = t
 ·have HF : Hid (cmpId s.data.toList t.data.toList = 0) := by rw [hst]; exact cmpId_self _
  subst hst
  have hq : (s.toList == s.toList) = true := by simp
  go_enter Tryz.func125, Tryz.ntmps125
  go_wp2
  go_ret
  exact ⟨by rw [HF.out]; rfl, rfl⟩
 have HNE : Hid (s.data.toList ≠ t.data.toList) := fun h => hst (by have := congrArg mk h; exact this)
 have hq : (s.toList == t.toList) = false := by
  rw [Lib.toList_data, Lib.toList_data, beq_eq_false_iff_ne]; exact HNE.out
 clear hst
 cases ha : numeric s.data.toList
 ·cases hb : numeric t.data.toList
  ·have HF : Hid (cmpId s.data.toList t.data.toList = if Op.bytesLess s.toList t.toList = true then -1 else 1) := by
    unfold Hid
    rw [cmpId_neither ha hb, compare_less _ _ HNE.out, Lib.toList_data, Lib.toList_data]
   have HA := Lib.hid ha; clear ha
   have HC := Lib.hid hb; clear hb
   cases hl : Op.bytesLess s.toList t.toList
   ·rw [hl, if_neg (by decide)] at HF
    go_enter Tryz.func125, Tryz.ntmps125
    go_wp2_with fail
    refine (ref_numeric_any s _ (by omega)).mono ?_
    rintro e w' ⟨rfl, rfl⟩
    rw [HA.out]
    go_wp2_with fail
    refine (ref_numeric_any t _ (by omega)).mono ?_
    rintro e w' ⟨rfl, rfl⟩
    rw [HC.out]
    go_wp2
    go_ret
    exact ⟨by rw [HF.out]; rfl, rfl⟩
   ·rw [hl, if_pos rfl] at HF
    go_enter Tryz.func125, Tryz.ntmps125
    go_wp2_with fail
    refine (ref_numeric_any s _ (by omega)).mono ?_
    rintro e w' ⟨rfl, rfl⟩
    rw [HA.out]
    go_wp2_with fail
    refine (ref_numeric_any t _ (by omega)).mono ?_
    rintro e w' ⟨rfl, rfl⟩
    rw [HC.out]
    go_wp2
    go_ret
    exact ⟨by rw [HF.out]; rfl, rfl⟩
  ·have HF := Lib.hid (cmpId_second ha hb)
   have HA := Lib.hid ha; clear ha
   have HC := Lib.hid hb; clear hb
   go_enter Tryz.func125, Tryz.ntmps125
   go_wp2_with fail
   refine (ref_numeric_any s _ (by omega)).mono ?_
   rintro e w' ⟨rfl, rfl⟩
   rw [HA.out]
   go_wp2_with fail
   refine (ref_numeric_any t _ (by omega)).mono ?_
   rintro e w' ⟨rfl, rfl⟩
   rw [HC.out]
   go_wp2
   go_ret
   exact ⟨by rw [HF.out]; rfl, rfl⟩
 ·cases hb : numeric t.data.toList
  ·have HF := Lib.hid (cmpId_first ha hb)
   have HA := Lib.hid ha; clear ha
   have HC := Lib.hid hb; clear hb
   go_enter Tryz.func125, Tryz.ntmps125
   go_wp2_with fail
   refine (ref_numeric_any s _ (by omega)).mono ?_
   rintro e w' ⟨rfl, rfl⟩
   rw [HA.out]
   go_wp2_with fail
   refine (ref_numeric_any t _ (by omega)).mono ?_
   rintro e w' ⟨rfl, rfl⟩
   rw [HC.out]
   go_wp2
   go_ret
   exact ⟨by rw [HF.out]; rfl, rfl⟩
  ·have HF := Lib.hid (cmpId_both ha hb)
   have AA := Lib.hid (numeric_all ha)
   have AB := Lib.hid (numeric_all hb)
   have HA := Lib.hid ha; clear ha
   have HC := Lib.hid hb; clear hb
   go_enter Tryz.func125, Tryz.ntmps125
   go_wp2_with fail
   refine (ref_numeric_any s _ (by omega)).mono ?_
   rintro e w' ⟨rfl, rfl⟩
   rw [HA.out]
   go_wp2_with fail
   refine (ref_numeric_any t _ (by omega)).mono ?_
   rintro e w' ⟨rfl, rfl⟩
   rw [HC.out]
   have HVI : Hid (val s.data.toList = val t.data.toList → s.size ≠ t.size) := fun h1 h2 => HNE.out (val_inj _ _ AA.out AB.out (by rw [← Lib.size_eq, ← Lib.size_eq]; exact h2) h1)
   have HL1 := Lib.hid (Lib.size_eq s)
   have HL2 := Lib.hid (Lib.size_eq t)
   have ZA : Hid (Zeros s.data.toList s) := ⟨0, rfl⟩
   have ZB : Hid (Zeros t.data.toList t) := ⟨0, rfl⟩
   obtain ⟨l, hl⟩ : ∃ l, s.data.toList = l := ⟨_, rfl⟩
   obtain ⟨r, hr⟩ : ∃ r, t.data.toList = r := ⟨_, rfl⟩
   have HG : Hid (cmpId s.data.toList t.data.toList = if ordN (val l) (val r) = 0 then ordN s.size t.size else ordN (val l) (val r)) := by have := HF.out; rw [← HL1.out, ← HL2.out, hl, hr] at this; rw [hl, hr]; exact this
   rw [hl] at AA ZA HVI
   rw [hr] at AB ZB HVI
   clear HF HA HC hl hr HL1 HL2 HNE
   go_wp2
   go_loop [8] (fun v => ∃ s' : ByteArray, v = .string s' ∧ Hid (Zeros l s') ∧ s'.size ≤ 1000) (fun v => t.size - strSize v)
   case atStart => exact ⟨s, rfl, ZA, hs⟩
   case round =>
    obtain ⟨s', rfl, ZS, hs'⟩ := hrel
    by_cases hlt : s'.size < t.size
    ·go_wp2
     go_round
     case rel => exact ⟨_, rfl, zero_ahead ZS.out, by rw [zero_size]; omega⟩
     case measure => simp only [strSize]; rw [zero_size]; omega
    ·go_wp2
     go_loop [9] (fun v => ∃ t' : ByteArray, v = .string t' ∧ Hid (Zeros r t') ∧ t'.size ≤ s'.size) (fun v => s'.size - strSize v)
     case atStart => exact ⟨t, rfl, ZB, by omega⟩
     case round =>
      obtain ⟨t', rfl, ZT, ht'⟩ := hrel
      by_cases hlt2 : t'.size < s'.size
      ·go_wp2
       go_round
       case rel => exact ⟨_, rfl, zero_ahead ZT.out, by rw [zero_size]; omega⟩
       case measure => simp only [strSize]; rw [zero_size]; omega
      ·have hsz : s'.size = t'.size := by omega
       have h1 := zeros_less AA.out AB.out ZS.out ZT.out hsz
       have h2 := zeros_eq AA.out AB.out ZS.out ZT.out hsz
       clear hsz
       rcases Nat.lt_trichotomy (val l) (val r) with h | h | h
       ·have hb1 : Op.bytesLess s'.toList t'.toList = true := h1.2 h
        have HO : Hid (cmpId s.data.toList t.data.toList = -1) := by have := HG.out; rw [ordN_lt h, if_neg (by decide)] at this; exact this
        clear h h1 h2
        go_wp2
        go_ret
        exact ⟨by rw [HO.out]; rfl, rfl⟩
       ·have hb1 : Op.bytesLess s'.toList t'.toList = false := by rw [← Bool.not_eq_true, h1]; omega
        have hb2 : (s'.toList == t'.toList) = true := h2.2 h
        have hne := HVI.out h
        have HO : Hid (cmpId s.data.toList t.data.toList = ordN s.size t.size) := by have := HG.out; rw [ordN_eq h, if_pos rfl] at this; exact this
        clear h h1 h2
        by_cases hlen : s.size < t.size
        ·have HO2 := Lib.hid (HO.out.trans (ordN_lt hlen))
         clear hne
         go_wp2
         go_ret
         exact ⟨by rw [HO2.out]; rfl, rfl⟩
        ·have HO2 := Lib.hid (HO.out.trans (ordN_gt (by omega)))
         clear hne
         go_wp2
         go_ret
         exact ⟨by rw [HO2.out]; rfl, rfl⟩
       ·have hb1 : Op.bytesLess s'.toList t'.toList = false := by rw [← Bool.not_eq_true, h1]; omega
        have hb2 : (s'.toList == t'.toList) = false := by rw [← Bool.not_eq_true, h2]; omega
        have HO : Hid (cmpId s.data.toList t.data.toList = 1) := by have := HG.out; rw [ordN_gt h, if_neg (by decide)] at this; exact this
        clear h h1 h2
        go_wp2
        go_ret
        exact ⟨by rw [HO.out]; rfl, rfl⟩

theorem drop_rows (xs : List (List UInt8)) (k : Nat) (h : k < xs.length) : xs.drop k = xs.getD k [] :: xs.drop (k + 1) := by
 rw [List.drop_eq_getElem_cons h]; simp [List.getD, List.getElem?_eq_getElem h]
theorem text_mem (xs : List (List UInt8)) (k : Nat) (h : k < xs.length) : xs.getD k [] ∈ xs := by simp [List.getD, List.getElem?_eq_getElem h]
theorem refRows_end {xs ys : List (List UInt8)} {k : Nat} (h : ¬ (k < xs.length ∧ k < ys.length)) (h1 : k ≤ xs.length) (h2 : k ≤ ys.length) : cmpRows (xs.drop k) (ys.drop k) = ordN xs.length ys.length := by
 have e : cmpRows (xs.drop k) (ys.drop k) = ordN (xs.drop k).length (ys.drop k).length := by
  rcases Nat.lt_or_ge k xs.length with g | g
  ·rw [show ys.drop k = [] from List.drop_eq_nil_of_le (by omega), cmpRows_nil']; rfl
  ·rw [show xs.drop k = [] from List.drop_eq_nil_of_le g, cmpRows_nil]; rfl
 rw [e, List.length_drop, List.length_drop]
 rcases Nat.lt_trichotomy xs.length ys.length with g | g | g
 ·rw [ordN_lt g, ordN_lt (by omega)]
 ·rw [ordN_eq g, ordN_eq (by omega)]
 ·rw [ordN_gt g, ordN_gt (by omega)]

theorem refRows_any (A : Option Addr) (a ca : Nat) (xs : List (List UInt8)) (B : Option Addr) (b cb : Nat) (ys : List (List UInt8)) (w : World) (hA : SRow w A a xs) (hB : SRow w B b ys) (ha : a ≤ maxLen) (hb : b ≤ maxLen) (hx : ∀ x ∈ xs, x.length ≤ 1000) (hy : ∀ y ∈ ys, y.length ≤ 1000) :
  Calls Tryz.prog 103 #[.slice A a ca, .slice B b cb] w fun e w' => e = .returned (.int .i64 (cmpRows xs ys)) ∧ Below w.heap.size w w' := by
 unfold maxLen at ha hb
 have HA := Lib.hid hA
 have HB := Lib.hid hB
 have HX := Lib.hid hx
 have HY := Lib.hid hy
 have HLA := Lib.hid hA.1
 have HLB := Lib.hid hB.1
 clear hA hB hx hy
 go_enter Tryz.func103, Tryz.ntmps103
 go_wp2
 go_loopw [5] (fun i W => ∃ k : Nat, k ≤ a ∧ k ≤ b ∧ i = .int .i64 k ∧ Hid (cmpRows (xs.drop k) (ys.drop k) = cmpRows xs ys) ∧ Hid (Below w.heap.size w W)) (fun i _ => a - (intOf i).toNat)
 case atStart => exact ⟨0, Nat.zero_le _, Nat.zero_le _, rfl, rfl, Below.refl _ _⟩
 case round =>
  obtain ⟨k, hk1, hk2, rfl, HG, HW⟩ := hrel
  by_cases hka : k < a
  ·by_cases hkb : k < b
   ·obtain ⟨g1, o1, rfl, hg1, hc1⟩ := (HA.out.kept HW.out).2 (by omega)
    obtain ⟨g2, o2, rfl, hg2, hc2⟩ := (HB.out.kept HW.out).2 (by omega)
    have hx1 := hc1 k hka
    have hx2 := hc2 k hkb
    clear hc1 hc2
    have HZ1 := Lib.hid (HX.out _ (text_mem xs k (by rw [HLA.out]; exact hka)))
    have HZ2 := Lib.hid (HY.out _ (text_mem ys k (by rw [HLB.out]; exact hkb)))
    have HD : Hid (cmpRows xs ys = if cmpId (xs.getD k []) (ys.getD k []) = 0 then cmpRows (xs.drop (k + 1)) (ys.drop (k + 1)) else cmpId (xs.getD k []) (ys.getD k [])) := by
     unfold Hid
     rw [← HG.out, drop_rows xs k (by rw [HLA.out]; exact hka), drop_rows ys k (by rw [HLB.out]; exact hkb), cmpRows]
    generalize xs.getD k [] = s at hx1 HZ1 HD
    generalize ys.getD k [] = t at hx2 HZ2 HD
    go_wp2
    go_still_tail 8, (by kernel_rfl)
    change wpList _ _ _ _ _ wr.drew
    have HW2 := Lib.hid HW.out.drew
    generalize wr.drew = w2 at HW2
    clear hx1 hx2
    go_wp2_with fail
    refine (refCmp_any (mk s) (mk t) _ HZ1.out HZ2.out).mono ?_
    rintro e w' ⟨rfl, rfl⟩
    rw [mk_list, mk_list]
    generalize cmpId s t = c at HD ⊢
    by_cases hc : c = 0
    ·have HD2 : Hid (cmpRows (xs.drop (k + 1)) (ys.drop (k + 1)) = cmpRows xs ys) := by have := HD.out; rw [if_pos hc] at this; exact this.symm
     subst hc
     clear HD
     go_wp2
     exact ⟨⟨k + 1, by omega, by omega, by go_num, HD2.out, HW2.out⟩, by simp [intOf]; omega⟩
    ·have HD2 : Hid (cmpRows xs ys = c) := by have := HD.out; rw [if_neg hc] at this; exact this
     have hn : (c == 0) = false := by simp [hc]
     have hn2 : (c != 0) = true := by simp [hc]
     clear HD hc
     go_wp2
     go_ret
     exact ⟨by rw [HD2.out]; rfl, HW2.out⟩
   ·have HE : Hid (cmpRows xs ys = ordN a b) := by unfold Hid; rw [← HG.out, refRows_end (by rw [HLA.out, HLB.out]; omega) (by rw [HLA.out]; omega) (by rw [HLB.out]; omega), HLA.out, HLB.out]
    have HE2 := Lib.hid (HE.out.trans (ordN_gt (by omega)))
    go_wp2
    go_ret
    exact ⟨by rw [HE2.out]; rfl, HW.out⟩
  ·have HE : Hid (cmpRows xs ys = ordN a b) := by unfold Hid; rw [← HG.out, refRows_end (by rw [HLA.out, HLB.out]; omega) (by rw [HLA.out]; omega) (by rw [HLB.out]; omega), HLA.out, HLB.out]
   obtain rfl : k = a := by omega
   rcases Nat.lt_or_ge k b with hlt | hge
   ·have HE2 := Lib.hid (HE.out.trans (ordN_lt hlt))
    go_wp2
    go_ret
    exact ⟨by rw [HE2.out]; rfl, HW.out⟩
   ·obtain rfl : k = b := by omega
    have HE2 := Lib.hid (HE.out.trans (ordN_eq rfl))
    go_wp2
    go_ret
    exact ⟨by rw [HE2.out]; rfl, HW.out⟩
end Go.Proofs.YtgfbflnhjpbceaaGreatDoor.Ident
