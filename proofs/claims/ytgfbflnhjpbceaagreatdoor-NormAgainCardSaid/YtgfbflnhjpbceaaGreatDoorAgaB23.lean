/-
  What the theorem of the last text needs of these: PrEnds, PrCaret. Conditions: as each theorem states.
-/
import Derived.Test.YtgfbflnhjpbceaaGreatDoorAgaB1
import Derived.Test.YtgfbflnhjpbceaaGreatDoorAgaB14
import Derived.Lib.SliceRun
import Derived.Deep.CutBlock
import Derived.Deep.DeepCutAuto
set_option maxRecDepth 100000
set_option maxHeartbeats 25600000
namespace Go.Proofs.YtgfbflnhjpbceaaGreatDoor.Prec
open Go.RowKit Num Ident Semver

def EndPost (w : World) (o : Option Ver) (e : Ending) (w' : World) : Prop :=
 ∃ A c, e = .returned (.tuple #[.agg #[.int .u64 ((verOf o).a : Int), .int .u64 ((verOf o).b : Int), .int .u64 ((verOf o).c : Int), .slice A (verOf o).pre.length c, .slice none (verOf o).build.length 0], .bool o.isSome]) ∧ SRow w' A (verOf o).pre.length (verOf o).pre ∧ (verOf o).build = [] ∧ Below w.heap.size w w'

theorem zeroU : ∀ w, (zeroValue 22).run Tryz.prog w = .ok (.int .u64 0) w := fun w => by kernel_rfl
theorem clear2 (W : World) (b : Nat) (u0 u1 u2 : Value) (h : At3 W b u0 u1 u2) (ty : TypeId) :
  (Builtin.clear_ #[165] ty #[.slice (some ⟨b, 1, none⟩) 2 2]).run Tryz.prog W = .ok (.tuple #[]) ((W.setCell ⟨b, 1, none⟩ (.int .u64 0)).setCell ⟨b, 2, none⟩ (.int .u64 0)) :=
 Lib.run_clear_slice W 165 22 ty (.int .u64 0) Tryz.underlying165 zeroU rfl rfl b 1 2 2 (by omega) (fun j hj => by
  obtain ⟨_, _, c0, c1, c2⟩ := h
  match j, hj with
  | 0, _ => rw [show (1 + 0) = 1 from rfl, c1]; rfl
  | 1, _ => rw [show (1 + 1) = 2 from rfl, c2]; rfl) (fun j _ => h.2.1 _)
theorem clear1 (W : World) (b : Nat) (u0 u1 u2 : Value) (h : At3 W b u0 u1 u2) (ty : TypeId) :
  (Builtin.clear_ #[165] ty #[.slice (some ⟨b, 2, none⟩) 1 1]).run Tryz.prog W = .ok (.tuple #[]) (W.setCell ⟨b, 2, none⟩ (.int .u64 0)) :=
 Lib.run_clear_slice W 165 22 ty (.int .u64 0) Tryz.underlying165 zeroU rfl rfl b 2 1 1 (by omega) (fun j hj => by
  obtain ⟨_, _, c0, c1, c2⟩ := h
  match j, hj with
  | 0, _ => rw [show (2 + 0) = 2 from rfl, c2]; rfl) (fun j _ => h.2.1 _)
theorem clear0 (W : World) (A : Option Addr) (ty : TypeId) :
  (Builtin.clear_ #[165] ty #[.slice A 0 0]).run Tryz.prog W = .ok (.tuple #[]) W := by
 cases A <;> simp [Builtin.clear_, run_underlying Tryz.underlying165]

def FirstZ (w : World) (p q r : Int) (e : Ending) (w' : World) : Prop :=
 ∃ A, e = .returned (.agg #[.int .u64 p, .int .u64 q, .int .u64 r, .slice A 1 1, .slice none 0 0]) ∧ SRow w' A 1 [[48]] ∧ Below w.heap.size w w'
def EndZ (w : World) (p q r : Int) (e : Ending) (w' : World) : Prop :=
 ∃ A, e = .returned (.tuple #[.agg #[.int .u64 p, .int .u64 q, .int .u64 r, .slice A 1 1, .slice none 0 0], .bool true]) ∧ SRow w' A 1 [[48]] ∧ Below w.heap.size w w'
def NoneZ (w : World) (e : Ending) (w' : World) : Prop :=
 e = .returned (.tuple #[.agg #[.int .u64 0, .int .u64 0, .int .u64 0, .slice none 0 0, .slice none 0 0], .bool false]) ∧ Below w.heap.size w w'

theorem first_int (p q r : Int) (w : World) :
  Calls Tryz.prog 147 #[.int .u64 p, .int .u64 q, .int .u64 r] w (FirstZ w p q r) := by
 go_enter Tryz.func147, Tryz.ntmps147
 go_wp2
 refine bodyPost_ret (v := .agg #[.int .u64 p, .int .u64 q, .int .u64 r, .slice (some ⟨w.heap.size + 1, 0, none⟩) 1 1, .slice none 0 0]) (by simp [results, Tryz.results147, go_sem]) rfl ?_
 refine ⟨some ⟨w.heap.size + 1, 0, none⟩, rfl, ?_, ((Below.refl _ _).alloc (Nat.le_refl _) _).alloc (by simp) _⟩
 have := SRow.one (w.alloc (.cells #[.int .u64 p, .int .u64 q, .int .u64 r, .slice (some ⟨w.heap.size + 1, 0, none⟩) 1 1, .slice none 0 0] 25)) [48]
 rw [size_alloc] at this; exact this

/-! The end at each place. -/

theorem At5.beside {W : World} {b b' o : Nat} {u0 u1 u2 u3 u4 : Value} (h : At5 W b u0 u1 u2 u3 u4) (hb : b ≠ b') (v : Value) : At5 (W.setCell ⟨b', o, none⟩ v) b u0 u1 u2 u3 u4 := by
 obtain ⟨h1, h2, c0, c1, c2, c3, c4⟩ := h
 have k : ∀ j, (W.setCell ⟨b', o, none⟩ v).cell? ⟨b, j, none⟩ = W.cell? ⟨b, j, none⟩ := fun j => World.cell?_setCell_other _ _ _ _ (by intro e; injection e with e; exact hb e.symm)
 exact ⟨by simpa using h1, fun o => by simp [go_sem, h2], (k 0).trans c0, (k 1).trans c1, (k 2).trans c2, (k 3).trans c3, (k 4).trans c4⟩

theorem endAt0 (p q r : Int) (w : World) (h0 : 0 ≤ p) (h1 : p < 9223372036854775807) :
  Calls Tryz.prog 124 #[.agg #[.int .u64 p, .int .u64 q, .int .u64 r], .int .i64 0] w (EndZ w (p + 1) 0 0) := by
 have HB0 : Hid (Below w.heap.size w ((w.alloc (.cells #[.int .u64 (p + 1), .int .u64 q, .int .u64 r] 147)).alloc (.cells #[.int .u64 0, .int .u64 0, .int .u64 0, .slice none 0 0, .slice none 0 0] 25))) := ((Below.refl _ _).alloc (Nat.le_refl _) _).alloc (by simp) _
 have K1 : Hid (At3 ((w.alloc (.cells #[.int .u64 (p + 1), .int .u64 q, .int .u64 r] 147)).alloc (.cells #[.int .u64 0, .int .u64 0, .int .u64 0, .slice none 0 0, .slice none 0 0] 25)) w.heap.size (.int .u64 (p + 1)) (.int .u64 q) (.int .u64 r)) := (At3.new w 147 _ _ _).kept ((Below.refl _ _).alloc (Nat.le_refl _) _) (by simp)
 have K2 : Hid (At5 ((w.alloc (.cells #[.int .u64 (p + 1), .int .u64 q, .int .u64 r] 147)).alloc (.cells #[.int .u64 0, .int .u64 0, .int .u64 0, .slice none 0 0, .slice none 0 0] 25)) (w.heap.size + 1) (.int .u64 0) (.int .u64 0) (.int .u64 0) (.slice none 0 0) (.slice none 0 0)) := by
  have := At5.new (w.alloc (.cells #[.int .u64 (p + 1), .int .u64 q, .int .u64 r] 147)) 25 (.int .u64 0) (.int .u64 0) (.int .u64 0) (.slice none 0 0) (.slice none 0 0)
  rw [size_alloc] at this; exact this
 go_enter Tryz.func124, Tryz.ntmps124
 go_upto_region 4 with (fail)
 generalize ((w.alloc (.cells #[.int .u64 (p + 1), .int .u64 q, .int .u64 r] 147)).alloc (.cells #[.int .u64 0, .int .u64 0, .int .u64 0, .slice none 0 0, .slice none 0 0] 25)) = W at HB0 K1 K2 ⊢
 have hcl := clear2 W w.heap.size _ _ _ K1.out
 go_upto_region 5 with (simp only [hcl])
 have L1 : Hid (At3 ((W.setCell ⟨w.heap.size, 1, none⟩ (.int .u64 0)).setCell ⟨w.heap.size, 2, none⟩ (.int .u64 0)) w.heap.size (.int .u64 (p + 1)) (.int .u64 0) (.int .u64 0)) := (At3.set2 (At3.set1 K1.out (.int .u64 0)) (.int .u64 0))
 have L2 : Hid (At5 ((W.setCell ⟨w.heap.size, 1, none⟩ (.int .u64 0)).setCell ⟨w.heap.size, 2, none⟩ (.int .u64 0)) (w.heap.size + 1) (.int .u64 0) (.int .u64 0) (.int .u64 0) (.slice none 0 0) (.slice none 0 0)) := (At5.beside (At5.beside K2.out (b' := w.heap.size) (o := 1) (by omega) (.int .u64 0)) (b' := w.heap.size) (o := 2) (by omega) (.int .u64 0))
 have B1 : Hid (Below w.heap.size w ((W.setCell ⟨w.heap.size, 1, none⟩ (.int .u64 0)).setCell ⟨w.heap.size, 2, none⟩ (.int .u64 0))) := ((HB0.out.setCell (by simp) _).setCell (by simp) _)
 generalize ((W.setCell ⟨w.heap.size, 1, none⟩ (.int .u64 0)).setCell ⟨w.heap.size, 2, none⟩ (.int .u64 0)) = W1 at L1 L2 B1 ⊢
 clear hcl
 clear K1 K2 HB0
 obtain ⟨hz1, _, x0, x1, x2⟩ := L1.out
 obtain ⟨hz2, _, y0, y1, y2, y3, y4⟩ := L2.out
 go_wp2_with fail
 refine (first_int _ _ _ _).mono ?_
 rintro e w3 ⟨A, rfl, hr, hb3⟩
 have N2 := Lib.hid (L2.out.kept hb3 hz2)
 have B3 := Lib.hid (B1.out.trans (hb3.mono (by omega)))
 obtain ⟨hz3, hf, g0, g1, g2, g3, g4⟩ := N2.out
 have R := Lib.hid (hr.set5 g0 g1 g2 g3 g4 (by simp) (by simp) (by simp) (by simp) (by simp) (.int .u64 (p + 1)) (.int .u64 0) (.int .u64 0) (.slice A 1 1) (.slice none 0 0))
 have B4 : Hid (Below w.heap.size w (set5 w3 (w.heap.size + 1) (.int .u64 (p + 1)) (.int .u64 0) (.int .u64 0) (.slice A 1 1) (.slice none 0 0))) := (((((B3.out.setCell (by simp) _).setCell (by simp) _).setCell (by simp) _).setCell (by simp) _).setCell (by simp) _)
 have N3 := Lib.hid (N2.out.set5 (.int .u64 (p + 1)) (.int .u64 0) (.int .u64 0) (.slice A 1 1) (.slice none 0 0))
 clear hr hb3 x0 x1 x2 y0 y1 y2 y3 y4
 unfold set5 at B4 N3
 go_wp2
 generalize (((((w3.setCell ⟨w.heap.size + 1, 0, none⟩ (.int .u64 (p + 1))).setCell ⟨w.heap.size + 1, 1, none⟩ (.int .u64 0)).setCell ⟨w.heap.size + 1, 2, none⟩ (.int .u64 0)).setCell ⟨w.heap.size + 1, 3, none⟩ (.slice A 1 1)).setCell ⟨w.heap.size + 1, 4, none⟩ (.slice none 0 0)) = w4 at R B4 N3 ⊢
 obtain ⟨_, _, z0, z1, z2, z3, z4⟩ := N3.out
 exact bodyPost_ret (v := .tuple #[.agg #[.int .u64 (p + 1), .int .u64 0, .int .u64 0, .slice A 1 1, .slice none 0 0], .bool true]) (by simp [results, Tryz.results124, go_sem, z0, z1, z2, z3, z4]) rfl ⟨A, rfl, R.out, B4.out⟩

theorem endNo0 (p q r : Int) (w : World) (h1 : 9223372036854775807 ≤ p) :
  Calls Tryz.prog 124 #[.agg #[.int .u64 p, .int .u64 q, .int .u64 r], .int .i64 0] w (NoneZ w) := by
 have HB0 : Hid (Below w.heap.size w ((w.alloc (.cells #[.int .u64 p, .int .u64 q, .int .u64 r] 147)).alloc (.cells #[.int .u64 0, .int .u64 0, .int .u64 0, .slice none 0 0, .slice none 0 0] 25))) := ((Below.refl _ _).alloc (Nat.le_refl _) _).alloc (by simp) _
 go_enter Tryz.func124, Tryz.ntmps124
 go_wp2
 exact bodyPost_ret (v := .tuple #[.agg #[.int .u64 0, .int .u64 0, .int .u64 0, .slice none 0 0, .slice none 0 0], .bool false]) (by simp [results, Tryz.results124, go_sem]) rfl ⟨rfl, HB0.out⟩

theorem endAt1 (p q r : Int) (w : World) (h0 : 0 ≤ q) (h1 : q < 9223372036854775807) :
  Calls Tryz.prog 124 #[.agg #[.int .u64 p, .int .u64 q, .int .u64 r], .int .i64 1] w (EndZ w p (q + 1) 0) := by
 have HB0 : Hid (Below w.heap.size w ((w.alloc (.cells #[.int .u64 p, .int .u64 (q + 1), .int .u64 r] 147)).alloc (.cells #[.int .u64 0, .int .u64 0, .int .u64 0, .slice none 0 0, .slice none 0 0] 25))) := ((Below.refl _ _).alloc (Nat.le_refl _) _).alloc (by simp) _
 have K1 : Hid (At3 ((w.alloc (.cells #[.int .u64 p, .int .u64 (q + 1), .int .u64 r] 147)).alloc (.cells #[.int .u64 0, .int .u64 0, .int .u64 0, .slice none 0 0, .slice none 0 0] 25)) w.heap.size (.int .u64 p) (.int .u64 (q + 1)) (.int .u64 r)) := (At3.new w 147 _ _ _).kept ((Below.refl _ _).alloc (Nat.le_refl _) _) (by simp)
 have K2 : Hid (At5 ((w.alloc (.cells #[.int .u64 p, .int .u64 (q + 1), .int .u64 r] 147)).alloc (.cells #[.int .u64 0, .int .u64 0, .int .u64 0, .slice none 0 0, .slice none 0 0] 25)) (w.heap.size + 1) (.int .u64 0) (.int .u64 0) (.int .u64 0) (.slice none 0 0) (.slice none 0 0)) := by
  have := At5.new (w.alloc (.cells #[.int .u64 p, .int .u64 (q + 1), .int .u64 r] 147)) 25 (.int .u64 0) (.int .u64 0) (.int .u64 0) (.slice none 0 0) (.slice none 0 0)
  rw [size_alloc] at this; exact this
 go_enter Tryz.func124, Tryz.ntmps124
 go_upto_region 4 with (fail)
 generalize ((w.alloc (.cells #[.int .u64 p, .int .u64 (q + 1), .int .u64 r] 147)).alloc (.cells #[.int .u64 0, .int .u64 0, .int .u64 0, .slice none 0 0, .slice none 0 0] 25)) = W at HB0 K1 K2 ⊢
 have hcl := clear1 W w.heap.size _ _ _ K1.out
 go_upto_region 5 with (simp only [hcl])
 have L1 : Hid (At3 (W.setCell ⟨w.heap.size, 2, none⟩ (.int .u64 0)) w.heap.size (.int .u64 p) (.int .u64 (q + 1)) (.int .u64 0)) := (At3.set2 K1.out (.int .u64 0))
 have L2 : Hid (At5 (W.setCell ⟨w.heap.size, 2, none⟩ (.int .u64 0)) (w.heap.size + 1) (.int .u64 0) (.int .u64 0) (.int .u64 0) (.slice none 0 0) (.slice none 0 0)) := (At5.beside K2.out (b' := w.heap.size) (o := 2) (by omega) (.int .u64 0))
 have B1 : Hid (Below w.heap.size w (W.setCell ⟨w.heap.size, 2, none⟩ (.int .u64 0))) := (HB0.out.setCell (by simp) _)
 generalize (W.setCell ⟨w.heap.size, 2, none⟩ (.int .u64 0)) = W1 at L1 L2 B1 ⊢
 clear hcl
 clear K1 K2 HB0
 obtain ⟨hz1, _, x0, x1, x2⟩ := L1.out
 obtain ⟨hz2, _, y0, y1, y2, y3, y4⟩ := L2.out
 go_wp2_with fail
 refine (first_int _ _ _ _).mono ?_
 rintro e w3 ⟨A, rfl, hr, hb3⟩
 have N2 := Lib.hid (L2.out.kept hb3 hz2)
 have B3 := Lib.hid (B1.out.trans (hb3.mono (by omega)))
 obtain ⟨hz3, hf, g0, g1, g2, g3, g4⟩ := N2.out
 have R := Lib.hid (hr.set5 g0 g1 g2 g3 g4 (by simp) (by simp) (by simp) (by simp) (by simp) (.int .u64 p) (.int .u64 (q + 1)) (.int .u64 0) (.slice A 1 1) (.slice none 0 0))
 have B4 : Hid (Below w.heap.size w (set5 w3 (w.heap.size + 1) (.int .u64 p) (.int .u64 (q + 1)) (.int .u64 0) (.slice A 1 1) (.slice none 0 0))) := (((((B3.out.setCell (by simp) _).setCell (by simp) _).setCell (by simp) _).setCell (by simp) _).setCell (by simp) _)
 have N3 := Lib.hid (N2.out.set5 (.int .u64 p) (.int .u64 (q + 1)) (.int .u64 0) (.slice A 1 1) (.slice none 0 0))
 clear hr hb3 x0 x1 x2 y0 y1 y2 y3 y4
 unfold set5 at B4 N3
 go_wp2
 generalize (((((w3.setCell ⟨w.heap.size + 1, 0, none⟩ (.int .u64 p)).setCell ⟨w.heap.size + 1, 1, none⟩ (.int .u64 (q + 1))).setCell ⟨w.heap.size + 1, 2, none⟩ (.int .u64 0)).setCell ⟨w.heap.size + 1, 3, none⟩ (.slice A 1 1)).setCell ⟨w.heap.size + 1, 4, none⟩ (.slice none 0 0)) = w4 at R B4 N3 ⊢
 obtain ⟨_, _, z0, z1, z2, z3, z4⟩ := N3.out
 exact bodyPost_ret (v := .tuple #[.agg #[.int .u64 p, .int .u64 (q + 1), .int .u64 0, .slice A 1 1, .slice none 0 0], .bool true]) (by simp [results, Tryz.results124, go_sem, z0, z1, z2, z3, z4]) rfl ⟨A, rfl, R.out, B4.out⟩

theorem endNo1 (p q r : Int) (w : World) (h1 : 9223372036854775807 ≤ q) :
  Calls Tryz.prog 124 #[.agg #[.int .u64 p, .int .u64 q, .int .u64 r], .int .i64 1] w (NoneZ w) := by
 have HB0 : Hid (Below w.heap.size w ((w.alloc (.cells #[.int .u64 p, .int .u64 q, .int .u64 r] 147)).alloc (.cells #[.int .u64 0, .int .u64 0, .int .u64 0, .slice none 0 0, .slice none 0 0] 25))) := ((Below.refl _ _).alloc (Nat.le_refl _) _).alloc (by simp) _
 go_enter Tryz.func124, Tryz.ntmps124
 go_wp2
 exact bodyPost_ret (v := .tuple #[.agg #[.int .u64 0, .int .u64 0, .int .u64 0, .slice none 0 0, .slice none 0 0], .bool false]) (by simp [results, Tryz.results124, go_sem]) rfl ⟨rfl, HB0.out⟩

theorem endAt2 (p q r : Int) (w : World) (h0 : 0 ≤ r) (h1 : r < 9223372036854775807) :
  Calls Tryz.prog 124 #[.agg #[.int .u64 p, .int .u64 q, .int .u64 r], .int .i64 2] w (EndZ w p q (r + 1)) := by
 have HB0 : Hid (Below w.heap.size w ((w.alloc (.cells #[.int .u64 p, .int .u64 q, .int .u64 (r + 1)] 147)).alloc (.cells #[.int .u64 0, .int .u64 0, .int .u64 0, .slice none 0 0, .slice none 0 0] 25))) := ((Below.refl _ _).alloc (Nat.le_refl _) _).alloc (by simp) _
 have K1 : Hid (At3 ((w.alloc (.cells #[.int .u64 p, .int .u64 q, .int .u64 (r + 1)] 147)).alloc (.cells #[.int .u64 0, .int .u64 0, .int .u64 0, .slice none 0 0, .slice none 0 0] 25)) w.heap.size (.int .u64 p) (.int .u64 q) (.int .u64 (r + 1))) := (At3.new w 147 _ _ _).kept ((Below.refl _ _).alloc (Nat.le_refl _) _) (by simp)
 have K2 : Hid (At5 ((w.alloc (.cells #[.int .u64 p, .int .u64 q, .int .u64 (r + 1)] 147)).alloc (.cells #[.int .u64 0, .int .u64 0, .int .u64 0, .slice none 0 0, .slice none 0 0] 25)) (w.heap.size + 1) (.int .u64 0) (.int .u64 0) (.int .u64 0) (.slice none 0 0) (.slice none 0 0)) := by
  have := At5.new (w.alloc (.cells #[.int .u64 p, .int .u64 q, .int .u64 (r + 1)] 147)) 25 (.int .u64 0) (.int .u64 0) (.int .u64 0) (.slice none 0 0) (.slice none 0 0)
  rw [size_alloc] at this; exact this
 go_enter Tryz.func124, Tryz.ntmps124
 go_upto_region 4 with (fail)
 generalize ((w.alloc (.cells #[.int .u64 p, .int .u64 q, .int .u64 (r + 1)] 147)).alloc (.cells #[.int .u64 0, .int .u64 0, .int .u64 0, .slice none 0 0, .slice none 0 0] 25)) = W at HB0 K1 K2 ⊢
 have hcl := clear0 W
 go_upto_region 5 with (simp only [hcl])
 have L1 := K1
 have L2 := K2
 have B1 := HB0
 have : ∃ W1, W1 = W := ⟨_, rfl⟩
 obtain ⟨W1, hW1⟩ := this
 rw [← hW1] at L1 L2 B1 ⊢
 clear hW1
 clear hcl
 clear K1 K2 HB0
 obtain ⟨hz1, _, x0, x1, x2⟩ := L1.out
 obtain ⟨hz2, _, y0, y1, y2, y3, y4⟩ := L2.out
 go_wp2_with fail
 refine (first_int _ _ _ _).mono ?_
 rintro e w3 ⟨A, rfl, hr, hb3⟩
 have N2 := Lib.hid (L2.out.kept hb3 hz2)
 have B3 := Lib.hid (B1.out.trans (hb3.mono (by omega)))
 obtain ⟨hz3, hf, g0, g1, g2, g3, g4⟩ := N2.out
 have R := Lib.hid (hr.set5 g0 g1 g2 g3 g4 (by simp) (by simp) (by simp) (by simp) (by simp) (.int .u64 p) (.int .u64 q) (.int .u64 (r + 1)) (.slice A 1 1) (.slice none 0 0))
 have B4 : Hid (Below w.heap.size w (set5 w3 (w.heap.size + 1) (.int .u64 p) (.int .u64 q) (.int .u64 (r + 1)) (.slice A 1 1) (.slice none 0 0))) := (((((B3.out.setCell (by simp) _).setCell (by simp) _).setCell (by simp) _).setCell (by simp) _).setCell (by simp) _)
 have N3 := Lib.hid (N2.out.set5 (.int .u64 p) (.int .u64 q) (.int .u64 (r + 1)) (.slice A 1 1) (.slice none 0 0))
 clear hr hb3 x0 x1 x2 y0 y1 y2 y3 y4
 unfold set5 at B4 N3
 go_wp2
 generalize (((((w3.setCell ⟨w.heap.size + 1, 0, none⟩ (.int .u64 p)).setCell ⟨w.heap.size + 1, 1, none⟩ (.int .u64 q)).setCell ⟨w.heap.size + 1, 2, none⟩ (.int .u64 (r + 1))).setCell ⟨w.heap.size + 1, 3, none⟩ (.slice A 1 1)).setCell ⟨w.heap.size + 1, 4, none⟩ (.slice none 0 0)) = w4 at R B4 N3 ⊢
 obtain ⟨_, _, z0, z1, z2, z3, z4⟩ := N3.out
 exact bodyPost_ret (v := .tuple #[.agg #[.int .u64 p, .int .u64 q, .int .u64 (r + 1), .slice A 1 1, .slice none 0 0], .bool true]) (by simp [results, Tryz.results124, go_sem, z0, z1, z2, z3, z4]) rfl ⟨A, rfl, R.out, B4.out⟩

theorem endNo2 (p q r : Int) (w : World) (h1 : 9223372036854775807 ≤ r) :
  Calls Tryz.prog 124 #[.agg #[.int .u64 p, .int .u64 q, .int .u64 r], .int .i64 2] w (NoneZ w) := by
 have HB0 : Hid (Below w.heap.size w ((w.alloc (.cells #[.int .u64 p, .int .u64 q, .int .u64 r] 147)).alloc (.cells #[.int .u64 0, .int .u64 0, .int .u64 0, .slice none 0 0, .slice none 0 0] 25))) := ((Below.refl _ _).alloc (Nat.le_refl _) _).alloc (by simp) _
 go_enter Tryz.func124, Tryz.ntmps124
 go_wp2
 exact bodyPost_ret (v := .tuple #[.agg #[.int .u64 0, .int .u64 0, .int .u64 0, .slice none 0 0, .slice none 0 0], .bool false]) (by simp [results, Tryz.results124, go_sem]) rfl ⟨rfl, HB0.out⟩
end Go.Proofs.YtgfbflnhjpbceaaGreatDoor.Prec
namespace Go.Proofs.YtgfbflnhjpbceaaGreatDoor.Prec
open Go.RowKit Num Ident Semver

theorem EndPost.of_none {w : World} {e : Ending} {w' : World} (h : NoneZ w e w') : EndPost w none e w' := by
 obtain ⟨rfl, hb⟩ := h
 exact ⟨none, 0, rfl, SRow.none_ _ _, rfl, hb⟩
theorem EndPost.of_end {w : World} {x y z : Nat} {p q r : Int} {e : Ending} {w' : World} (h : EndZ w p q r e w') (hp : p = (x : Int)) (hq : q = (y : Int)) (hr : r = (z : Int)) : EndPost w (some (firstV x y z)) e w' := by
 subst hp hq hr
 obtain ⟨A, rfl, h1, hb⟩ := h
 exact ⟨A, 1, rfl, h1, rfl, hb⟩
theorem end_0_no {x y z : Nat} (h : (9223372036854775807 : Int) ≤ (x : Int)) : endV x y z 0 = none := by unfold endV; rw [if_pos rfl, if_pos (by omega)]
theorem end_0_yes {x y z : Nat} (h : (x : Int) < 9223372036854775807) : endV x y z 0 = some (firstV (x + 1) 0 0) := by unfold endV; rw [if_pos rfl, if_neg (by omega)]
theorem end_1_no {x y z : Nat} (h : (9223372036854775807 : Int) ≤ (y : Int)) : endV x y z 1 = none := by unfold endV; rw [if_neg (by omega), if_pos rfl, if_pos (by omega)]
theorem end_1_yes {x y z : Nat} (h : (y : Int) < 9223372036854775807) : endV x y z 1 = some (firstV x (y + 1) 0) := by unfold endV; rw [if_neg (by omega), if_pos rfl, if_neg (by omega)]
theorem end_2_no {x y z : Nat} (h : (9223372036854775807 : Int) ≤ (z : Int)) : endV x y z 2 = none := by unfold endV; rw [if_neg (by omega), if_neg (by omega), if_pos (by omega)]
theorem end_2_yes {x y z : Nat} (h : (z : Int) < 9223372036854775807) : endV x y z 2 = some (firstV x y (z + 1)) := by unfold endV; rw [if_neg (by omega), if_neg (by omega), if_neg (by omega)]
theorem endAt_0 (x y z : Nat) (w : World) : Calls Tryz.prog 124 #[.agg #[.int .u64 (x : Int), .int .u64 (y : Int), .int .u64 (z : Int)], .int .i64 0] w (EndPost w (endV x y z 0)) := by
 by_cases h : (9223372036854775807 : Int) ≤ (x : Int)
 ·rw [end_0_no h]
  exact (endNo0 x y z w h).mono fun e w' hk => EndPost.of_none hk
 ·rw [end_0_yes (by omega)]
  exact (endAt0 x y z w (by omega) (by omega)).mono fun e w' hk => EndPost.of_end hk (by omega) (by omega) (by omega)
theorem endAt_1 (x y z : Nat) (w : World) : Calls Tryz.prog 124 #[.agg #[.int .u64 (x : Int), .int .u64 (y : Int), .int .u64 (z : Int)], .int .i64 1] w (EndPost w (endV x y z 1)) := by
 by_cases h : (9223372036854775807 : Int) ≤ (y : Int)
 ·rw [end_1_no h]
  exact (endNo1 x y z w h).mono fun e w' hk => EndPost.of_none hk
 ·rw [end_1_yes (by omega)]
  exact (endAt1 x y z w (by omega) (by omega)).mono fun e w' hk => EndPost.of_end hk (by omega) (by omega) (by omega)
theorem endAt_2 (x y z : Nat) (w : World) : Calls Tryz.prog 124 #[.agg #[.int .u64 (x : Int), .int .u64 (y : Int), .int .u64 (z : Int)], .int .i64 2] w (EndPost w (endV x y z 2)) := by
 by_cases h : (9223372036854775807 : Int) ≤ (z : Int)
 ·rw [end_2_no h]
  exact (endNo2 x y z w h).mono fun e w' hk => EndPost.of_none hk
 ·rw [end_2_yes (by omega)]
  exact (endAt2 x y z w (by omega) (by omega)).mono fun e w' hk => EndPost.of_end hk (by omega) (by omega) (by omega)
def EndIs (w : World) (x : Ver) (s : Bool) (e : Ending) (w' : World) : Prop :=
 ∃ A' c', e = .returned (.tuple #[.agg #[.int .u64 (x.a : Int), .int .u64 (x.b : Int), .int .u64 (x.c : Int), .slice A' x.pre.length c', .slice none x.build.length 0], .bool s]) ∧ SRow w' A' x.pre.length x.pre ∧ x.build = [] ∧ Below w.heap.size w w'

theorem tilde_any (v : Ver) (A : Option Addr) (c : Nat) (B : Option Addr) (d : Nat) (w : World) :
  Calls Tryz.prog 100 #[.agg #[.int .u64 (v.a : Int), .int .u64 (v.b : Int), .int .u64 (v.c : Int), .slice A v.pre.length c, .slice B v.build.length d]] w (EndPost w (tildeV v)) := by
 have HB0 : Hid (Below w.heap.size w ((w.alloc (.cells #[.int .u64 (v.a : Int), .int .u64 (v.b : Int), .int .u64 (v.c : Int), .slice A v.pre.length c, .slice B v.build.length d] 25)).alloc (.cells #[.int .u64 0, .int .u64 0, .int .u64 0, .slice none 0 0, .slice none 0 0] 25))) := ((Below.refl _ _).alloc (Nat.le_refl _) _).alloc (by simp) _
 have K1 : Hid (At5 ((w.alloc (.cells #[.int .u64 (v.a : Int), .int .u64 (v.b : Int), .int .u64 (v.c : Int), .slice A v.pre.length c, .slice B v.build.length d] 25)).alloc (.cells #[.int .u64 0, .int .u64 0, .int .u64 0, .slice none 0 0, .slice none 0 0] 25)) w.heap.size (.int .u64 (v.a : Int)) (.int .u64 (v.b : Int)) (.int .u64 (v.c : Int)) (.slice A v.pre.length c) (.slice B v.build.length d)) := (At5.new w 25 _ _ _ _ _).kept ((Below.refl _ _).alloc (Nat.le_refl _) _) (by simp)
 have K2 : Hid (At5 ((w.alloc (.cells #[.int .u64 (v.a : Int), .int .u64 (v.b : Int), .int .u64 (v.c : Int), .slice A v.pre.length c, .slice B v.build.length d] 25)).alloc (.cells #[.int .u64 0, .int .u64 0, .int .u64 0, .slice none 0 0, .slice none 0 0] 25)) (w.heap.size + 1) (.int .u64 0) (.int .u64 0) (.int .u64 0) (.slice none 0 0) (.slice none 0 0)) := by
  have := At5.new (w.alloc (.cells #[.int .u64 (v.a : Int), .int .u64 (v.b : Int), .int .u64 (v.c : Int), .slice A v.pre.length c, .slice B v.build.length d] 25)) 25 (.int .u64 0) (.int .u64 0) (.int .u64 0) (.slice none 0 0) (.slice none 0 0)
  rw [size_alloc] at this; exact this
 have HE : Hid (∀ W, Calls Tryz.prog 124 #[.agg #[.int .u64 (v.a : Int), .int .u64 (v.b : Int), .int .u64 (v.c : Int)], .int .i64 1] W (EndPost W (tildeV v))) := fun W => endAt_1 v.a v.b v.c W
 generalize tildeV v = o at HE ⊢
 have HP' : Hid (∀ e w', EndIs w (verOf o) o.isSome e w' → EndPost w o e w') := fun _ _ h => h
 go_enter Tryz.func100, Tryz.ntmps100
 go_upto_region 1 with (fail)
 generalize ((w.alloc (.cells #[.int .u64 (v.a : Int), .int .u64 (v.b : Int), .int .u64 (v.c : Int), .slice A v.pre.length c, .slice B v.build.length d] 25)).alloc (.cells #[.int .u64 0, .int .u64 0, .int .u64 0, .slice none 0 0, .slice none 0 0] 25)) = W at HB0 K1 K2 ⊢
 obtain ⟨hz0, _, x0, x1, x2, x3, x4⟩ := K1.out
 obtain ⟨hz1, _, y0, y1, y2, y3, y4⟩ := K2.out
 go_wp2_with fail
 refine (coreOf_any _ _ _ _ _ _).mono ?_
 rintro e w2 ⟨rfl, hb2⟩
 have L2 := Lib.hid (K2.out.kept hb2 hz1)
 have B1 := Lib.hid (HB0.out.trans (hb2.mono (by omega)))
 have hz2 := L2.out.1
 clear hb2 x0 x1 x2 x3 x4 y0 y1 y2 y3 y4
 obtain ⟨_, _, y0, y1, y2, y3, y4⟩ := L2.out
 go_wp2_with fail
 refine (HE.out _).mono ?_
 rintro e w3 ⟨A', c', rfl, hr, hbu, hb3⟩
 have HU := Lib.hid hbu
 generalize verOf o = x at hr HU HP' ⊢
 generalize o.isSome = s at HP' ⊢
 have N2 := Lib.hid (L2.out.kept hb3 hz2)
 have B3 := Lib.hid (B1.out.trans (hb3.mono (by omega)))
 obtain ⟨hz3, hf, g0, g1, g2, g3, g4⟩ := N2.out
 have R := Lib.hid (hr.set5 g0 g1 g2 g3 g4 (by simp) (by simp) (by simp) (by simp) (by simp) (.int .u64 (x.a : Int)) (.int .u64 (x.b : Int)) (.int .u64 (x.c : Int)) (.slice A' x.pre.length c') (.slice none x.build.length 0))
 have B4 : Hid (Below w.heap.size w (set5 w3 (w.heap.size + 1) (.int .u64 (x.a : Int)) (.int .u64 (x.b : Int)) (.int .u64 (x.c : Int)) (.slice A' x.pre.length c') (.slice none x.build.length 0))) := (((((B3.out.setCell (by simp) _).setCell (by simp) _).setCell (by simp) _).setCell (by simp) _).setCell (by simp) _)
 have N3 := Lib.hid (N2.out.set5 (.int .u64 (x.a : Int)) (.int .u64 (x.b : Int)) (.int .u64 (x.c : Int)) (.slice A' x.pre.length c') (.slice none x.build.length 0))
 clear hr hb3
 unfold set5 at B4 N3
 go_wp2
 generalize (((((w3.setCell ⟨w.heap.size + 1, 0, none⟩ (.int .u64 (x.a : Int))).setCell ⟨w.heap.size + 1, 1, none⟩ (.int .u64 (x.b : Int))).setCell ⟨w.heap.size + 1, 2, none⟩ (.int .u64 (x.c : Int))).setCell ⟨w.heap.size + 1, 3, none⟩ (.slice A' x.pre.length c')).setCell ⟨w.heap.size + 1, 4, none⟩ (.slice none x.build.length 0)) = w4 at R B4 N3 ⊢
 obtain ⟨_, _, z0, z1, z2, z3, z4⟩ := N3.out
 exact bodyPost_ret (v := .tuple #[.agg #[.int .u64 (x.a : Int), .int .u64 (x.b : Int), .int .u64 (x.c : Int), .slice A' x.pre.length c', .slice none x.build.length 0], .bool s]) (by simp [results, Tryz.results100, go_sem, z0, z1, z2, z3, z4]) rfl (HP'.out _ _ ⟨A', c', rfl, R.out, HU.out, B4.out⟩)

def CaretAt (v : Ver) (i : Nat) : Prop := i = 0 ∨ (i = 1 ∧ v.a = 0) ∨ (i = 2 ∧ v.a = 0 ∧ v.b = 0)
def CaretJ (w : World) (v : Ver) (A : Option Addr) (c : Nat) (B : Option Addr) (d : Nat) (a' : Act) (w' : World) : Prop :=
 ∃ (i b : Nat) (u6 u7 u8 u9 u10 u11 u12 u13 u14 u15 u16 u17 u18 u19 u20 u21 u22 : Value), Below w.heap.size w w' ∧ At5 w' (w.heap.size + 1) (.int .u64 0) (.int .u64 0) (.int .u64 0) (.slice none 0 0) (.slice none 0 0) ∧ At3 w' b (.int .u64 (v.a : Int)) (.int .u64 (v.b : Int)) (.int .u64 (v.c : Int)) ∧ CaretAt v i ∧
  a' = { tmps := #[.agg #[.int .u64 (v.a : Int), .int .u64 (v.b : Int), .int .u64 (v.c : Int), .slice A v.pre.length c, .slice B v.build.length d], .pointer (some ⟨w.heap.size, 0, none⟩), .pointer (some ⟨w.heap.size + 1, 0, none⟩), .bool false, .pointer (some ⟨b, 0, none⟩), .int .i64 i, u6, u7, u8, u9, u10, u11, u12, u13, u14, u15, u16, u17, u18, u19, u20, u21, u22], defers := [] }
def CaretM (a' : Act) (_ : World) : Nat := 3 - (intOf (a'.tmps.getD 5 undef)).toNat
theorem caret_0 {v : Ver} (h : v.a ≠ 0) : caretV v = endV v.a v.b v.c 0 := by unfold caretV placeV; rw [if_pos h]
theorem caret_1 {v : Ver} (h : v.a = 0) (h2 : v.b ≠ 0) : caretV v = endV v.a v.b v.c 1 := by unfold caretV placeV; rw [if_neg (by omega), if_pos h2]
theorem caret_2 {v : Ver} (h : v.a = 0) (h2 : v.b = 0) : caretV v = endV v.a v.b v.c 2 := by unfold caretV placeV; rw [if_neg (by omega), if_neg (by omega)]
theorem beq0_no {x : Nat} (h : x ≠ 0) : ((x : Int) == 0) = false := by simp; omega
theorem beq0_yes {x : Nat} (h : x = 0) : ((x : Int) == 0) = true := by simp [h]

theorem caret_any (v : Ver) (A : Option Addr) (c : Nat) (B : Option Addr) (d : Nat) (w : World) :
  Calls Tryz.prog 99 #[.agg #[.int .u64 (v.a : Int), .int .u64 (v.b : Int), .int .u64 (v.c : Int), .slice A v.pre.length c, .slice B v.build.length d]] w (EndPost w (caretV v)) := by
 have HB0 : Hid (Below w.heap.size w ((w.alloc (.cells #[.int .u64 (v.a : Int), .int .u64 (v.b : Int), .int .u64 (v.c : Int), .slice A v.pre.length c, .slice B v.build.length d] 25)).alloc (.cells #[.int .u64 0, .int .u64 0, .int .u64 0, .slice none 0 0, .slice none 0 0] 25))) := ((Below.refl _ _).alloc (Nat.le_refl _) _).alloc (by simp) _
 have K1 : Hid (At5 ((w.alloc (.cells #[.int .u64 (v.a : Int), .int .u64 (v.b : Int), .int .u64 (v.c : Int), .slice A v.pre.length c, .slice B v.build.length d] 25)).alloc (.cells #[.int .u64 0, .int .u64 0, .int .u64 0, .slice none 0 0, .slice none 0 0] 25)) w.heap.size (.int .u64 (v.a : Int)) (.int .u64 (v.b : Int)) (.int .u64 (v.c : Int)) (.slice A v.pre.length c) (.slice B v.build.length d)) := (At5.new w 25 _ _ _ _ _).kept ((Below.refl _ _).alloc (Nat.le_refl _) _) (by simp)
 have K2 : Hid (At5 ((w.alloc (.cells #[.int .u64 (v.a : Int), .int .u64 (v.b : Int), .int .u64 (v.c : Int), .slice A v.pre.length c, .slice B v.build.length d] 25)).alloc (.cells #[.int .u64 0, .int .u64 0, .int .u64 0, .slice none 0 0, .slice none 0 0] 25)) (w.heap.size + 1) (.int .u64 0) (.int .u64 0) (.int .u64 0) (.slice none 0 0) (.slice none 0 0)) := by
  have := At5.new (w.alloc (.cells #[.int .u64 (v.a : Int), .int .u64 (v.b : Int), .int .u64 (v.c : Int), .slice A v.pre.length c, .slice B v.build.length d] 25)) 25 (.int .u64 0) (.int .u64 0) (.int .u64 0) (.slice none 0 0) (.slice none 0 0)
  rw [size_alloc] at this; exact this
 obtain ⟨o, ho⟩ : ∃ o, caretV v = o := ⟨_, rfl⟩
 have HO := Lib.hid ho
 rw [ho]
 clear ho
 have HP' : Hid (∀ e w', EndIs w (verOf o) o.isSome e w' → EndPost w o e w') := fun _ _ h => h
 go_enter Tryz.func99, Tryz.ntmps99
 go_wp2_with fail
 refine wp_scope_back 0 (CaretJ w v A c B d) CaretM rfl ?_ ?_
 ·rintro a' w1 ⟨i, b, u6, u7, u8, u9, u10, u11, u12, u13, u14, u15, u16, u17, u18, u19, u20, u21, u22, hb1, k2, k3, hat, rfl⟩
  have B1 := Lib.hid hb1
  have L2 := Lib.hid k2
  have L3 := Lib.hid k3
  have hz2 := k2.1
  have hz3' := k3.1
  clear hb1
  obtain ⟨_, _, x0, x1, x2⟩ := k3
  obtain ⟨_, _, y0, y1, y2, y3, y4⟩ := k2
  clear HB0 K1 K2
  rcases hat with rfl | ⟨rfl, h1⟩ | ⟨rfl, h1, h2⟩
  ·by_cases h : v.a = 0
   ·have e1 := beq0_yes h
    have HH := Lib.hid h
    clear h
    go_wp2
    go_step3
    refine ⟨rfl, ⟨1, b, _, _, _, _, _, _, _, _, _, _, _, _, _, _, _, _, _, B1.out, L2.out, L3.out, .inr (.inl ⟨rfl, HH.out⟩), rfl⟩, ?_⟩
    simp [CaretM, intOf]
   ·have HE : Hid (∀ W, Calls Tryz.prog 124 #[.agg #[.int .u64 (v.a : Int), .int .u64 (v.b : Int), .int .u64 (v.c : Int)], .int .i64 0] W (EndPost W o)) := fun W => by
     have k := endAt_0 v.a v.b v.c W
     rw [← caret_0 h, HO.out] at k
     exact k
    have e1 := beq0_no h
    clear h
    go_wp2_with fail
    refine (HE.out _).mono ?_
    rintro e w3 ⟨A', c', rfl, hr, hbu, hb3⟩
    have HU := Lib.hid hbu
    generalize verOf o = x at hr HU HP' ⊢
    generalize o.isSome = s at HP' ⊢
    have N2 := Lib.hid (L2.out.kept hb3 hz2)
    have B3 := Lib.hid (B1.out.trans (hb3.mono (by omega)))
    obtain ⟨hz3, hf, g0, g1, g2, g3, g4⟩ := N2.out
    have R := Lib.hid (hr.set5 g0 g1 g2 g3 g4 (by simp) (by simp) (by simp) (by simp) (by simp) (.int .u64 (x.a : Int)) (.int .u64 (x.b : Int)) (.int .u64 (x.c : Int)) (.slice A' x.pre.length c') (.slice none x.build.length 0))
    have B4 : Hid (Below w.heap.size w (set5 w3 (w.heap.size + 1) (.int .u64 (x.a : Int)) (.int .u64 (x.b : Int)) (.int .u64 (x.c : Int)) (.slice A' x.pre.length c') (.slice none x.build.length 0))) := (((((B3.out.setCell (by simp) _).setCell (by simp) _).setCell (by simp) _).setCell (by simp) _).setCell (by simp) _)
    have N3 := Lib.hid (N2.out.set5 (.int .u64 (x.a : Int)) (.int .u64 (x.b : Int)) (.int .u64 (x.c : Int)) (.slice A' x.pre.length c') (.slice none x.build.length 0))
    clear hr hb3
    unfold set5 at B4 N3
    go_wp2
    simp only [Exit.jump]
    generalize (((((w3.setCell ⟨w.heap.size + 1, 0, none⟩ (.int .u64 (x.a : Int))).setCell ⟨w.heap.size + 1, 1, none⟩ (.int .u64 (x.b : Int))).setCell ⟨w.heap.size + 1, 2, none⟩ (.int .u64 (x.c : Int))).setCell ⟨w.heap.size + 1, 3, none⟩ (.slice A' x.pre.length c')).setCell ⟨w.heap.size + 1, 4, none⟩ (.slice none x.build.length 0)) = w4 at R B4 N3 ⊢
    obtain ⟨_, _, z0, z1, z2, z3, z4⟩ := N3.out
    exact bodyPost_ret (v := .tuple #[.agg #[.int .u64 (x.a : Int), .int .u64 (x.b : Int), .int .u64 (x.c : Int), .slice A' x.pre.length c', .slice none x.build.length 0], .bool s]) (by simp [results, Tryz.results99, go_sem, z0, z1, z2, z3, z4]) rfl (HP'.out _ _ ⟨A', c', rfl, R.out, HU.out, B4.out⟩)
  ·have H1 := Lib.hid h1
   clear h1
   by_cases h : v.b = 0
   ·have e1 := beq0_yes h
    have HH := Lib.hid h
    clear h
    go_wp2
    go_step3
    refine ⟨rfl, ⟨2, b, _, _, _, _, _, _, _, _, _, _, _, _, _, _, _, _, _, B1.out, L2.out, L3.out, .inr (.inr ⟨rfl, H1.out, HH.out⟩), rfl⟩, ?_⟩
    simp [CaretM, intOf]
   ·have HE : Hid (∀ W, Calls Tryz.prog 124 #[.agg #[.int .u64 (v.a : Int), .int .u64 (v.b : Int), .int .u64 (v.c : Int)], .int .i64 1] W (EndPost W o)) := fun W => by
     have k := endAt_1 v.a v.b v.c W
     rw [← caret_1 H1.out h, HO.out] at k
     exact k
    have e1 := beq0_no h
    clear h
    go_wp2_with fail
    refine (HE.out _).mono ?_
    rintro e w3 ⟨A', c', rfl, hr, hbu, hb3⟩
    have HU := Lib.hid hbu
    generalize verOf o = x at hr HU HP' ⊢
    generalize o.isSome = s at HP' ⊢
    have N2 := Lib.hid (L2.out.kept hb3 hz2)
    have B3 := Lib.hid (B1.out.trans (hb3.mono (by omega)))
    obtain ⟨hz3, hf, g0, g1, g2, g3, g4⟩ := N2.out
    have R := Lib.hid (hr.set5 g0 g1 g2 g3 g4 (by simp) (by simp) (by simp) (by simp) (by simp) (.int .u64 (x.a : Int)) (.int .u64 (x.b : Int)) (.int .u64 (x.c : Int)) (.slice A' x.pre.length c') (.slice none x.build.length 0))
    have B4 : Hid (Below w.heap.size w (set5 w3 (w.heap.size + 1) (.int .u64 (x.a : Int)) (.int .u64 (x.b : Int)) (.int .u64 (x.c : Int)) (.slice A' x.pre.length c') (.slice none x.build.length 0))) := (((((B3.out.setCell (by simp) _).setCell (by simp) _).setCell (by simp) _).setCell (by simp) _).setCell (by simp) _)
    have N3 := Lib.hid (N2.out.set5 (.int .u64 (x.a : Int)) (.int .u64 (x.b : Int)) (.int .u64 (x.c : Int)) (.slice A' x.pre.length c') (.slice none x.build.length 0))
    clear hr hb3
    unfold set5 at B4 N3
    go_wp2
    simp only [Exit.jump]
    generalize (((((w3.setCell ⟨w.heap.size + 1, 0, none⟩ (.int .u64 (x.a : Int))).setCell ⟨w.heap.size + 1, 1, none⟩ (.int .u64 (x.b : Int))).setCell ⟨w.heap.size + 1, 2, none⟩ (.int .u64 (x.c : Int))).setCell ⟨w.heap.size + 1, 3, none⟩ (.slice A' x.pre.length c')).setCell ⟨w.heap.size + 1, 4, none⟩ (.slice none x.build.length 0)) = w4 at R B4 N3 ⊢
    obtain ⟨_, _, z0, z1, z2, z3, z4⟩ := N3.out
    exact bodyPost_ret (v := .tuple #[.agg #[.int .u64 (x.a : Int), .int .u64 (x.b : Int), .int .u64 (x.c : Int), .slice A' x.pre.length c', .slice none x.build.length 0], .bool s]) (by simp [results, Tryz.results99, go_sem, z0, z1, z2, z3, z4]) rfl (HP'.out _ _ ⟨A', c', rfl, R.out, HU.out, B4.out⟩)
  ·have H1 := Lib.hid h1
   have H2 := Lib.hid h2
   clear h1 h2
   have HE : Hid (∀ W, Calls Tryz.prog 124 #[.agg #[.int .u64 (v.a : Int), .int .u64 (v.b : Int), .int .u64 (v.c : Int)], .int .i64 2] W (EndPost W o)) := fun W => by
    have k := endAt_2 v.a v.b v.c W
    rw [← caret_2 H1.out H2.out, HO.out] at k
    exact k
   go_wp2_with fail
   refine (HE.out _).mono ?_
   rintro e w3 ⟨A', c', rfl, hr, hbu, hb3⟩
   have HU := Lib.hid hbu
   generalize verOf o = x at hr HU HP' ⊢
   generalize o.isSome = s at HP' ⊢
   have N2 := Lib.hid (L2.out.kept hb3 hz2)
   have B3 := Lib.hid (B1.out.trans (hb3.mono (by omega)))
   obtain ⟨hz3, hf, g0, g1, g2, g3, g4⟩ := N2.out
   have R := Lib.hid (hr.set5 g0 g1 g2 g3 g4 (by simp) (by simp) (by simp) (by simp) (by simp) (.int .u64 (x.a : Int)) (.int .u64 (x.b : Int)) (.int .u64 (x.c : Int)) (.slice A' x.pre.length c') (.slice none x.build.length 0))
   have B4 : Hid (Below w.heap.size w (set5 w3 (w.heap.size + 1) (.int .u64 (x.a : Int)) (.int .u64 (x.b : Int)) (.int .u64 (x.c : Int)) (.slice A' x.pre.length c') (.slice none x.build.length 0))) := (((((B3.out.setCell (by simp) _).setCell (by simp) _).setCell (by simp) _).setCell (by simp) _).setCell (by simp) _)
   have N3 := Lib.hid (N2.out.set5 (.int .u64 (x.a : Int)) (.int .u64 (x.b : Int)) (.int .u64 (x.c : Int)) (.slice A' x.pre.length c') (.slice none x.build.length 0))
   clear hr hb3
   unfold set5 at B4 N3
   go_wp2
   simp only [Exit.jump]
   generalize (((((w3.setCell ⟨w.heap.size + 1, 0, none⟩ (.int .u64 (x.a : Int))).setCell ⟨w.heap.size + 1, 1, none⟩ (.int .u64 (x.b : Int))).setCell ⟨w.heap.size + 1, 2, none⟩ (.int .u64 (x.c : Int))).setCell ⟨w.heap.size + 1, 3, none⟩ (.slice A' x.pre.length c')).setCell ⟨w.heap.size + 1, 4, none⟩ (.slice none x.build.length 0)) = w4 at R B4 N3 ⊢
   obtain ⟨_, _, z0, z1, z2, z3, z4⟩ := N3.out
   exact bodyPost_ret (v := .tuple #[.agg #[.int .u64 (x.a : Int), .int .u64 (x.b : Int), .int .u64 (x.c : Int), .slice A' x.pre.length c', .slice none x.build.length 0], .bool s]) (by simp [results, Tryz.results99, go_sem, z0, z1, z2, z3, z4]) rfl (HP'.out _ _ ⟨A', c', rfl, R.out, HU.out, B4.out⟩)
 ·intro HP
  go_upto_region 1 with (fail)
  generalize ((w.alloc (.cells #[.int .u64 (v.a : Int), .int .u64 (v.b : Int), .int .u64 (v.c : Int), .slice A v.pre.length c, .slice B v.build.length d] 25)).alloc (.cells #[.int .u64 0, .int .u64 0, .int .u64 0, .slice none 0 0, .slice none 0 0] 25)) = W at HB0 K1 K2 ⊢
  obtain ⟨hz0, _, x0, x1, x2, x3, x4⟩ := K1.out
  obtain ⟨hz1, _, y0, y1, y2, y3, y4⟩ := K2.out
  go_wp2_with fail
  refine (coreOf_any _ _ _ _ _ _).mono ?_
  rintro e w2 ⟨rfl, hb2⟩
  have L2 := Lib.hid (K2.out.kept hb2 hz1)
  have B1 := Lib.hid (HB0.out.trans (hb2.mono (by omega)))
  have hz2 := L2.out.1
  have M2 := Lib.hid (L2.out.kept ((Below.refl w2.heap.size w2).alloc (Nat.le_refl _) (.cells #[.int .u64 (v.a : Int), .int .u64 (v.b : Int), .int .u64 (v.c : Int)] 147)) hz2)
  have M3 := Lib.hid (At3.new w2 147 (.int .u64 (v.a : Int)) (.int .u64 (v.b : Int)) (.int .u64 (v.c : Int)))
  have B2 : Hid (Below w.heap.size w (w2.alloc (.cells #[.int .u64 (v.a : Int), .int .u64 (v.b : Int), .int .u64 (v.c : Int)] 147))) := B1.out.alloc (by omega) _
  clear hb2 x0 x1 x2 x3 x4 y0 y1 y2 y3 y4
  go_wp2
  go_step3
  rename_i hK
  exact hK _ _ (HP.out _ _ ⟨0, w2.heap.size, _, _, _, _, _, _, _, _, _, _, _, _, _, _, _, _, _, B2.out, M2.out, M3.out, .inl rfl, rfl⟩)
end Go.Proofs.YtgfbflnhjpbceaaGreatDoor.Prec
