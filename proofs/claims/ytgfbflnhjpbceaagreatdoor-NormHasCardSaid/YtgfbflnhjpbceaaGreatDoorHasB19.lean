/-
  What the theorem of the last text needs of these: NmCut, PrEnds. Conditions: as each theorem states.
-/
import Derived.Test.YtgfbflnhjpbceaaGreatDoorHasB1
import Derived.Test.YtgfbflnhjpbceaaGreatDoorHasB7
import Derived.Test.YtgfbflnhjpbceaaGreatDoorHasB14
import Derived.Test.YtgfbflnhjpbceaaGreatDoorHasB18
import Derived.Lib.SliceRun
import Derived.Deep.CutBlock
import Derived.Deep.DeepCutAuto
set_option maxRecDepth 100000
set_option maxHeartbeats 25600000
namespace Go.Proofs.YtgfbflnhjpbceaaGreatDoor.Nrm
open Go.RowKit Num Ident Semver Prec Span
theorem ncut_any (k : Int) (v : Ver) (A : Option Addr) (c : Nat) (B : Option Addr) (d : Nat) (w : World) :
  Calls Tryz.prog 96 #[.int .i64 k, .agg #[.int .u64 (v.a : Int), .int .u64 (v.b : Int), .int .u64 (v.c : Int), .slice A v.pre.length c, .slice B v.build.length d]] w fun e w' => e = .returned (.agg #[.int .i64 k, .int .u64 (v.a : Int), .int .u64 (v.b : Int), .int .u64 (v.c : Int), .slice A v.pre.length c, .slice none 0 0]) ∧ Below w.heap.size w w' := by
 go_enter Tryz.func96, Tryz.ntmps96
 go_wp2
 refine bodyPost_ret (v := .agg #[.int .i64 k, .int .u64 (v.a : Int), .int .u64 (v.b : Int), .int .u64 (v.c : Int), .slice A v.pre.length c, .slice none 0 0]) (by simp [results, Tryz.results96, go_sem]) rfl ?_
 exact ⟨rfl, ((Below.refl _ _).alloc (Nat.le_refl _) _).alloc (by simp) _⟩
theorem nend_no (v : Ver) (A : Option Addr) (c : Nat) (B : Option Addr) (d : Nat) (w : World) :
  Calls Tryz.prog 98 #[.agg #[.int .u64 (v.a : Int), .int .u64 (v.b : Int), .int .u64 (v.c : Int), .slice A v.pre.length c, .slice B v.build.length d], .bool false] w fun e w' => e = .returned (.agg #[.int .i64 3, .int .u64 0, .int .u64 0, .int .u64 0, .slice none 0 0, .slice none 0 0]) ∧ Below w.heap.size w w' := by
 go_enter Tryz.func98, Tryz.ntmps98
 go_wp2
 refine bodyPost_ret (v := .agg #[.int .i64 3, .int .u64 0, .int .u64 0, .int .u64 0, .slice none 0 0, .slice none 0 0]) (by simp [results, Tryz.results98, go_sem]) rfl ?_
 exact ⟨rfl, ((Below.refl _ _).alloc (Nat.le_refl _) _).alloc (by simp) _⟩
theorem nend_yes (v : Ver) (A : Option Addr) (c : Nat) (B : Option Addr) (d : Nat) (w : World) :
  Calls Tryz.prog 98 #[.agg #[.int .u64 (v.a : Int), .int .u64 (v.b : Int), .int .u64 (v.c : Int), .slice A v.pre.length c, .slice B v.build.length d], .bool true] w fun e w' => e = .returned (.agg #[.int .i64 1, .int .u64 (v.a : Int), .int .u64 (v.b : Int), .int .u64 (v.c : Int), .slice A v.pre.length c, .slice none 0 0]) ∧ Below w.heap.size w w' := by
 have HB0 : Hid (Below w.heap.size w ((w.alloc (.cells #[.int .u64 (v.a : Int), .int .u64 (v.b : Int), .int .u64 (v.c : Int), .slice A v.pre.length c, .slice B v.build.length d] 25)).alloc (.cells #[.int .i64 0, .int .u64 0, .int .u64 0, .int .u64 0, .slice none 0 0, .slice none 0 0] 41))) := ((Below.refl _ _).alloc (Nat.le_refl _) _).alloc (by simp) _
 have J0 : Hid (At6B ((w.alloc (.cells #[.int .u64 (v.a : Int), .int .u64 (v.b : Int), .int .u64 (v.c : Int), .slice A v.pre.length c, .slice B v.build.length d] 25)).alloc (.cells #[.int .i64 0, .int .u64 0, .int .u64 0, .int .u64 0, .slice none 0 0, .slice none 0 0] 41)) (w.heap.size + 1) (.int .i64 0) (.int .u64 0) (.int .u64 0) (.int .u64 0) (.slice none 0 0) (.slice none 0 0)) := by
  have := At6B.new (w.alloc (.cells #[.int .u64 (v.a : Int), .int .u64 (v.b : Int), .int .u64 (v.c : Int), .slice A v.pre.length c, .slice B v.build.length d] 25)) 41 (.int .i64 0) (.int .u64 0) (.int .u64 0) (.int .u64 0) (.slice none 0 0) (.slice none 0 0)
  rw [size_alloc] at this; exact this
 go_enter Tryz.func98, Tryz.ntmps98
 go_wp2_with fail
 generalize ((w.alloc (.cells #[.int .u64 (v.a : Int), .int .u64 (v.b : Int), .int .u64 (v.c : Int), .slice A v.pre.length c, .slice B v.build.length d] 25)).alloc (.cells #[.int .i64 0, .int .u64 0, .int .u64 0, .int .u64 0, .slice none 0 0, .slice none 0 0] 41)) = W at HB0 J0 ⊢
 refine (ncut_any 1 v A c B d W).mono ?_
 rintro e w1 ⟨rfl, hb⟩
 have B1 := Lib.hid (HB0.out.trans (hb.mono HB0.out.size))
 have J1 := Lib.hid (J0.out.kept hb J0.out.1)
 clear hb J0 HB0
 have K3 := Lib.hid (J1.out.set6 (.int .i64 1) (.int .u64 (v.a : Int)) (.int .u64 (v.b : Int)) (.int .u64 (v.c : Int)) (.slice A v.pre.length c) (.slice none 0 0))
 have B3 := Lib.hid (below_set6 B1.out (b := w.heap.size + 1) (by omega) (.int .i64 1) (.int .u64 (v.a : Int)) (.int .u64 (v.b : Int)) (.int .u64 (v.c : Int)) (.slice A v.pre.length c) (.slice none 0 0))
 obtain ⟨z1, z2, y0, y1, y2, y3, y4, y5⟩ := J1.out
 go_wp2
 change bodyPost _ _ _ _ _ (Span.set6 w1 (w.heap.size + 1) (.int .i64 1) (.int .u64 (v.a : Int)) (.int .u64 (v.b : Int)) (.int .u64 (v.c : Int)) (.slice A v.pre.length c) (.slice none 0 0))
 generalize Span.set6 w1 (w.heap.size + 1) (.int .i64 1) (.int .u64 (v.a : Int)) (.int .u64 (v.b : Int)) (.int .u64 (v.c : Int)) (.slice A v.pre.length c) (.slice none 0 0) = W5 at K3 B3 ⊢
 clear z1 z2 y0 y1 y2 y3 y4 y5
 obtain ⟨z1, z2, y0, y1, y2, y3, y4, y5⟩ := K3.out
 exact bodyPost_ret (v := .agg #[.int .i64 1, .int .u64 (v.a : Int), .int .u64 (v.b : Int), .int .u64 (v.c : Int), .slice A v.pre.length c, .slice none 0 0]) (by simp [results, Tryz.results98, go_sem, y0, y1, y2, y3, y4, y5]) rfl ⟨rfl, B3.out⟩
theorem between_any (x y : RCut) (w : World) (hx : Span.Lies w x) (hy : Span.Lies w y) :
  Calls Tryz.prog 97 #[.agg #[.int .i64 x.kind, .int .u64 (x.v.a : Int), .int .u64 (x.v.b : Int), .int .u64 (x.v.c : Int), .slice x.A x.v.pre.length x.c, .slice x.B x.v.build.length x.d], .agg #[.int .i64 y.kind, .int .u64 (y.v.a : Int), .int .u64 (y.v.b : Int), .int .u64 (y.v.c : Int), .slice y.A y.v.pre.length y.c, .slice y.B y.v.build.length y.d]] w (SetIn w 1 (NormalOf [⟨x.cut, y.cut⟩])) := by
 have HB0 : Hid (Below w.heap.size w ((w.alloc (.cells #[.int .i64 x.kind, .int .u64 (x.v.a : Int), .int .u64 (x.v.b : Int), .int .u64 (x.v.c : Int), .slice x.A x.v.pre.length x.c, .slice x.B x.v.build.length x.d] 41)).alloc (.cells #[.int .i64 y.kind, .int .u64 (y.v.a : Int), .int .u64 (y.v.b : Int), .int .u64 (y.v.c : Int), .slice y.A y.v.pre.length y.c, .slice y.B y.v.build.length y.d] 41))) := ((Below.refl _ _).alloc (Nat.le_refl _) _).alloc (by simp) _
 have HS0 : Hid (LiesS ((w.alloc (.cells #[.int .i64 x.kind, .int .u64 (x.v.a : Int), .int .u64 (x.v.b : Int), .int .u64 (x.v.c : Int), .slice x.A x.v.pre.length x.c, .slice x.B x.v.build.length x.d] 41)).alloc (.cells #[.int .i64 y.kind, .int .u64 (y.v.a : Int), .int .u64 (y.v.b : Int), .int .u64 (y.v.c : Int), .slice y.A y.v.pre.length y.c, .slice y.B y.v.build.length y.d] 41)) ⟨x, y⟩) := ⟨hx.kept HB0.out, hy.kept HB0.out⟩
 clear hx hy
 go_enter Tryz.func97, Tryz.ntmps97
 go_upto_region 1 with (fail)
 have X0 := At6B.new w 41 (.int .i64 x.kind) (.int .u64 (x.v.a : Int)) (.int .u64 (x.v.b : Int)) (.int .u64 (x.v.c : Int)) (.slice x.A x.v.pre.length x.c) (.slice x.B x.v.build.length x.d)
 have X1 : Hid (At6B ((w.alloc (.cells #[.int .i64 x.kind, .int .u64 (x.v.a : Int), .int .u64 (x.v.b : Int), .int .u64 (x.v.c : Int), .slice x.A x.v.pre.length x.c, .slice x.B x.v.build.length x.d] 41)).alloc (.cells #[.int .i64 y.kind, .int .u64 (y.v.a : Int), .int .u64 (y.v.b : Int), .int .u64 (y.v.c : Int), .slice y.A y.v.pre.length y.c, .slice y.B y.v.build.length y.d] 41)) w.heap.size (.int .i64 x.kind) (.int .u64 (x.v.a : Int)) (.int .u64 (x.v.b : Int)) (.int .u64 (x.v.c : Int)) (.slice x.A x.v.pre.length x.c) (.slice x.B x.v.build.length x.d)) := X0.kept ((Below.refl _ _).alloc (Nat.le_refl _) _) X0.1
 have Y1 : Hid (At6B ((w.alloc (.cells #[.int .i64 x.kind, .int .u64 (x.v.a : Int), .int .u64 (x.v.b : Int), .int .u64 (x.v.c : Int), .slice x.A x.v.pre.length x.c, .slice x.B x.v.build.length x.d] 41)).alloc (.cells #[.int .i64 y.kind, .int .u64 (y.v.a : Int), .int .u64 (y.v.b : Int), .int .u64 (y.v.c : Int), .slice y.A y.v.pre.length y.c, .slice y.B y.v.build.length y.d] 41)) (w.heap.size + 1) (.int .i64 y.kind) (.int .u64 (y.v.a : Int)) (.int .u64 (y.v.b : Int)) (.int .u64 (y.v.c : Int)) (.slice y.A y.v.pre.length y.c) (.slice y.B y.v.build.length y.d)) := by
  have := At6B.new (w.alloc (.cells #[.int .i64 x.kind, .int .u64 (x.v.a : Int), .int .u64 (x.v.b : Int), .int .u64 (x.v.c : Int), .slice x.A x.v.pre.length x.c, .slice x.B x.v.build.length x.d] 41)) 41 (.int .i64 y.kind) (.int .u64 (y.v.a : Int)) (.int .u64 (y.v.b : Int)) (.int .u64 (y.v.c : Int)) (.slice y.A y.v.pre.length y.c) (.slice y.B y.v.build.length y.d)
  rw [size_alloc] at this; exact this
 clear X0
 generalize ((w.alloc (.cells #[.int .i64 x.kind, .int .u64 (x.v.a : Int), .int .u64 (x.v.b : Int), .int .u64 (x.v.c : Int), .slice x.A x.v.pre.length x.c, .slice x.B x.v.build.length x.d] 41)).alloc (.cells #[.int .i64 y.kind, .int .u64 (y.v.a : Int), .int .u64 (y.v.b : Int), .int .u64 (y.v.c : Int), .slice y.A y.v.pre.length y.c, .slice y.B y.v.build.length y.d] 41)) = W at HB0 HS0 X1 Y1 ⊢
 obtain ⟨a1, a2, x0, x1, x2, x3, x4, x5⟩ := X1.out
 obtain ⟨b1, b2, y0, y1, y2, y3, y4, y5⟩ := Y1.out
 have R1 := Lib.hid (SpRow.one W ⟨x, y⟩ HS0.out)
 have B1 : Hid (Below w.heap.size w (W.alloc (.cells (RSp.mk x y).vals.toArray 43))) := HB0.out.alloc HB0.out.size _
 go_wp2_with fail
 refine (normal_in (some ⟨W.heap.size, 0, none⟩) 1 1 [⟨x, y⟩] _ R1.out (by omega)).mono ?_
 intro e w3 h3
 have HS := Lib.hid (h3.mono B1.out)
 obtain ⟨A3, n3, c3, out, rfl, q1, q2, q3, q4, q5, q6, q7⟩ := HS.out
 clear h3
 go_wp2
 go_ret
 exact HS.out
end Go.Proofs.YtgfbflnhjpbceaaGreatDoor.Nrm
namespace Go.Proofs.YtgfbflnhjpbceaaGreatDoor.Prec
open Go.RowKit Num Ident Semver

def EndPost (w : World) (o : Option Ver) (e : Ending) (w' : World) : Prop :=
 ∃ A c, e = .returned (.tuple #[.agg #[.int .u64 ((verOf o).a : Int), .int .u64 ((verOf o).b : Int), .int .u64 ((verOf o).c : Int), .slice A (verOf o).pre.length c, .slice none (verOf o).build.length 0], .bool o.isSome]) ∧ SRow w' A (verOf o).pre.length (verOf o).pre ∧ (verOf o).build = [] ∧ Below w.heap.size w w'

theorem zeroU : ∀ w, (zeroValue 22).run Tryz.prog w = .ok (.int .u64 0) w := fun w => by kernel_rfl
theorem clear2 (W : World) (b : Nat) (u0 u1 u2 : Value) (h : At3 W b u0 u1 u2) (ty : TypeId) :
  (Builtin.clear_ #[165] ty #[.slice (some ⟨b, 1, none⟩) 2 2]).run Tryz.prog W = .ok (.tuple #[]) ((W.setCell ⟨b, 1, none⟩ (.int .u64 0)).setCell ⟨b, 2, none⟩ (.int .u64 0)) :=
 Lib.run_clear_slice W 165 22 ty (.int .u64 0) Tryz.underlying165 zeroU rfl rfl b 1 2 2 (by omega) (fun j hj => by
  obtain ⟨_, _, c0, c1, c2⟩ := h
  match j, hj with
  | 0, _ => rw [show (1 + 0) = 1 from rfl, c1]; rfl
  | 1, _ => rw [show (1 + 1) = 2 from rfl, c2]; rfl) (fun j _ => h.2.1 _)
theorem clear1 (W : World) (b : Nat) (u0 u1 u2 : Value) (h : At3 W b u0 u1 u2) (ty : TypeId) :
  (Builtin.clear_ #[165] ty #[.slice (some ⟨b, 2, none⟩) 1 1]).run Tryz.prog W = .ok (.tuple #[]) (W.setCell ⟨b, 2, none⟩ (.int .u64 0)) :=
 Lib.run_clear_slice W 165 22 ty (.int .u64 0) Tryz.underlying165 zeroU rfl rfl b 2 1 1 (by omega) (fun j hj => by
  obtain ⟨_, _, c0, c1, c2⟩ := h
  match j, hj with
  | 0, _ => rw [show (2 + 0) = 2 from rfl, c2]; rfl) (fun j _ => h.2.1 _)
theorem clear0 (W : World) (A : Option Addr) (ty : TypeId) :
  (Builtin.clear_ #[165] ty #[.slice A 0 0]).run Tryz.prog W = .ok (.tuple #[]) W := by
 cases A <;> simp [Builtin.clear_, run_underlying Tryz.underlying165]

def FirstZ (w : World) (p q r : Int) (e : Ending) (w' : World) : Prop :=
 ∃ A, e = .returned (.agg #[.int .u64 p, .int .u64 q, .int .u64 r, .slice A 1 1, .slice none 0 0]) ∧ SRow w' A 1 [[48]] ∧ Below w.heap.size w w'
def EndZ (w : World) (p q r : Int) (e : Ending) (w' : World) : Prop :=
 ∃ A, e = .returned (.tuple #[.agg #[.int .u64 p, .int .u64 q, .int .u64 r, .slice A 1 1, .slice none 0 0], .bool true]) ∧ SRow w' A 1 [[48]] ∧ Below w.heap.size w w'
def NoneZ (w : World) (e : Ending) (w' : World) : Prop :=
 e = .returned (.tuple #[.agg #[.int .u64 0, .int .u64 0, .int .u64 0, .slice none 0 0, .slice none 0 0], .bool false]) ∧ Below w.heap.size w w'

theorem first_int (p q r : Int) (w : World) :
  Calls Tryz.prog 147 #[.int .u64 p, .int .u64 q, .int .u64 r] w (FirstZ w p q r) := by
 go_enter Tryz.func147, Tryz.ntmps147
 go_wp2
 refine bodyPost_ret (v := .agg #[.int .u64 p, .int .u64 q, .int .u64 r, .slice (some ⟨w.heap.size + 1, 0, none⟩) 1 1, .slice none 0 0]) (by simp [results, Tryz.results147, go_sem]) rfl ?_
 refine ⟨some ⟨w.heap.size + 1, 0, none⟩, rfl, ?_, ((Below.refl _ _).alloc (Nat.le_refl _) _).alloc (by simp) _⟩
 have := SRow.one (w.alloc (.cells #[.int .u64 p, .int .u64 q, .int .u64 r, .slice (some ⟨w.heap.size + 1, 0, none⟩) 1 1, .slice none 0 0] 25)) [48]
 rw [size_alloc] at this; exact this

/-! The end at each place. -/

theorem At5.beside {W : World} {b b' o : Nat} {u0 u1 u2 u3 u4 : Value} (h : At5 W b u0 u1 u2 u3 u4) (hb : b ≠ b') (v : Value) : At5 (W.setCell ⟨b', o, none⟩ v) b u0 u1 u2 u3 u4 := by
 obtain ⟨h1, h2, c0, c1, c2, c3, c4⟩ := h
 have k : ∀ j, (W.setCell ⟨b', o, none⟩ v).cell? ⟨b, j, none⟩ = W.cell? ⟨b, j, none⟩ := fun j => World.cell?_setCell_other _ _ _ _ (by intro e; injection e with e; exact hb e.symm)
 exact ⟨by simpa using h1, fun o => by simp [go_sem, h2], (k 0).trans c0, (k 1).trans c1, (k 2).trans c2, (k 3).trans c3, (k 4).trans c4⟩

theorem endAt0 (p q r : Int) (w : World) (h0 : 0 ≤ p) (h1 : p < 9223372036854775807) :
  Calls Tryz.prog 124 #[.agg #[.int .u64 p, .int .u64 q, .int .u64 r], .int .i64 0] w (EndZ w (p + 1) 0 0) := by
 have HB0 : Hid (Below w.heap.size w ((w.alloc (.cells #[.int .u64 (p + 1), .int .u64 q, .int .u64 r] 147)).alloc (.cells #[.int .u64 0, .int .u64 0, .int .u64 0, .slice none 0 0, .slice none 0 0] 25))) := ((Below.refl _ _).alloc (Nat.le_refl _) _).alloc (by simp) _
 have K1 : Hid (At3 ((w.alloc (.cells #[.int .u64 (p + 1), .int .u64 q, .int .u64 r] 147)).alloc (.cells #[.int .u64 0, .int .u64 0, .int .u64 0, .slice none 0 0, .slice none 0 0] 25)) w.heap.size (.int .u64 (p + 1)) (.int .u64 q) (.int .u64 r)) := (At3.new w 147 _ _ _).kept ((Below.refl _ _).alloc (Nat.le_refl _) _) (by simp)
 have K2 : Hid (At5 ((w.alloc (.cells #[.int .u64 (p + 1), .int .u64 q, .int .u64 r] 147)).alloc (.cells #[.int .u64 0, .int .u64 0, .int .u64 0, .slice none 0 0, .slice none 0 0] 25)) (w.heap.size + 1) (.int .u64 0) (.int .u64 0) (.int .u64 0) (.slice none 0 0) (.slice none 0 0)) := by
  have := At5.new (w.alloc (.cells #[.int .u64 (p + 1), .int .u64 q, .int .u64 r] 147)) 25 (.int .u64 0) (.int .u64 0) (.int .u64 0) (.slice none 0 0) (.slice none 0 0)
  rw [size_alloc] at this; exact this
 go_enter Tryz.func124, Tryz.ntmps124
 go_upto_region 4 with (fail)
 generalize ((w.alloc (.cells #[.int .u64 (p + 1), .int .u64 q, .int .u64 r] 147)).alloc (.cells #[.int .u64 0, .int .u64 0, .int .u64 0, .slice none 0 0, .slice none 0 0] 25)) = W at HB0 K1 K2 ⊢
 have hcl := clear2 W w.heap.size _ _ _ K1.out
 go_upto_region 5 with (simp only [hcl])
 have L1 : Hid (At3 ((W.setCell ⟨w.heap.size, 1, none⟩ (.int .u64 0)).setCell ⟨w.heap.size, 2, none⟩ (.int .u64 0)) w.heap.size (.int .u64 (p + 1)) (.int .u64 0) (.int .u64 0)) := (At3.set2 (At3.set1 K1.out (.int .u64 0)) (.int .u64 0))
 have L2 : Hid (At5 ((W.setCell ⟨w.heap.size, 1, none⟩ (.int .u64 0)).setCell ⟨w.heap.size, 2, none⟩ (.int .u64 0)) (w.heap.size + 1) (.int .u64 0) (.int .u64 0) (.int .u64 0) (.slice none 0 0) (.slice none 0 0)) := (At5.beside (At5.beside K2.out (b' := w.heap.size) (o := 1) (by omega) (.int .u64 0)) (b' := w.heap.size) (o := 2) (by omega) (.int .u64 0))
 have B1 : Hid (Below w.heap.size w ((W.setCell ⟨w.heap.size, 1, none⟩ (.int .u64 0)).setCell ⟨w.heap.size, 2, none⟩ (.int .u64 0))) := ((HB0.out.setCell (by simp) _).setCell (by simp) _)
 generalize ((W.setCell ⟨w.heap.size, 1, none⟩ (.int .u64 0)).setCell ⟨w.heap.size, 2, none⟩ (.int .u64 0)) = W1 at L1 L2 B1 ⊢
 clear hcl
 clear K1 K2 HB0
 obtain ⟨hz1, _, x0, x1, x2⟩ := L1.out
 obtain ⟨hz2, _, y0, y1, y2, y3, y4⟩ := L2.out
 go_wp2_with fail
 refine (first_int _ _ _ _).mono ?_
 rintro e w3 ⟨A, rfl, hr, hb3⟩
 have N2 := Lib.hid (L2.out.kept hb3 hz2)
 have B3 := Lib.hid (B1.out.trans (hb3.mono (by omega)))
 obtain ⟨hz3, hf, g0, g1, g2, g3, g4⟩ := N2.out
 have R := Lib.hid (hr.set5 g0 g1 g2 g3 g4 (by simp) (by simp) (by simp) (by simp) (by simp) (.int .u64 (p + 1)) (.int .u64 0) (.int .u64 0) (.slice A 1 1) (.slice none 0 0))
 have B4 : Hid (Below w.heap.size w (set5 w3 (w.heap.size + 1) (.int .u64 (p + 1)) (.int .u64 0) (.int .u64 0) (.slice A 1 1) (.slice none 0 0))) := (((((B3.out.setCell (by simp) _).setCell (by simp) _).setCell (by simp) _).setCell (by simp) _).setCell (by simp) _)
 have N3 := Lib.hid (N2.out.set5 (.int .u64 (p + 1)) (.int .u64 0) (.int .u64 0) (.slice A 1 1) (.slice none 0 0))
 clear hr hb3 x0 x1 x2 y0 y1 y2 y3 y4
 unfold set5 at B4 N3
 go_wp2
 generalize (((((w3.setCell ⟨w.heap.size + 1, 0, none⟩ (.int .u64 (p + 1))).setCell ⟨w.heap.size + 1, 1, none⟩ (.int .u64 0)).setCell ⟨w.heap.size + 1, 2, none⟩ (.int .u64 0)).setCell ⟨w.heap.size + 1, 3, none⟩ (.slice A 1 1)).setCell ⟨w.heap.size + 1, 4, none⟩ (.slice none 0 0)) = w4 at R B4 N3 ⊢
 obtain ⟨_, _, z0, z1, z2, z3, z4⟩ := N3.out
 exact bodyPost_ret (v := .tuple #[.agg #[.int .u64 (p + 1), .int .u64 0, .int .u64 0, .slice A 1 1, .slice none 0 0], .bool true]) (by simp [results, Tryz.results124, go_sem, z0, z1, z2, z3, z4]) rfl ⟨A, rfl, R.out, B4.out⟩

theorem endNo0 (p q r : Int) (w : World) (h1 : 9223372036854775807 ≤ p) :
  Calls Tryz.prog 124 #[.agg #[.int .u64 p, .int .u64 q, .int .u64 r], .int .i64 0] w (NoneZ w) := by
 have HB0 : Hid (Below w.heap.size w ((w.alloc (.cells #[.int .u64 p, .int .u64 q, .int .u64 r] 147)).alloc (.cells #[.int .u64 0, .int .u64 0, .int .u64 0, .slice none 0 0, .slice none 0 0] 25))) := ((Below.refl _ _).alloc (Nat.le_refl _) _).alloc (by simp) _
 go_enter Tryz.func124, Tryz.ntmps124
 go_wp2
 exact bodyPost_ret (v := .tuple #[.agg #[.int .u64 0, .int .u64 0, .int .u64 0, .slice none 0 0, .slice none 0 0], .bool false]) (by simp [results, Tryz.results124, go_sem]) rfl ⟨rfl, HB0.out⟩

theorem endAt1 (p q r : Int) (w : World) (h0 : 0 ≤ q) (h1 : q < 9223372036854775807) :
  Calls Tryz.prog 124 #[.agg #[.int .u64 p, .int .u64 q, .int .u64 r], .int .i64 1] w (EndZ w p (q + 1) 0) := by
 have HB0 : Hid (Below w.heap.size w ((w.alloc (.cells #[.int .u64 p, .int .u64 (q + 1), .int .u64 r] 147)).alloc (.cells #[.int .u64 0, .int .u64 0, .int .u64 0, .slice none 0 0, .slice none 0 0] 25))) := ((Below.refl _ _).alloc (Nat.le_refl _) _).alloc (by simp) _
 have K1 : Hid (At3 ((w.alloc (.cells #[.int .u64 p, .int .u64 (q + 1), .int .u64 r] 147)).alloc (.cells #[.int .u64 0, .int .u64 0, .int .u64 0, .slice none 0 0, .slice none 0 0] 25)) w.heap.size (.int .u64 p) (.int .u64 (q + 1)) (.int .u64 r)) := (At3.new w 147 _ _ _).kept ((Below.refl _ _).alloc (Nat.le_refl _) _) (by simp)
 have K2 : Hid (At5 ((w.alloc (.cells #[.int .u64 p, .int .u64 (q + 1), .int .u64 r] 147)).alloc (.cells #[.int .u64 0, .int .u64 0, .int .u64 0, .slice none 0 0, .slice none 0 0] 25)) (w.heap.size + 1) (.int .u64 0) (.int .u64 0) (.int .u64 0) (.slice none 0 0) (.slice none 0 0)) := by
  have := At5.new (w.alloc (.cells #[.int .u64 p, .int .u64 (q + 1), .int .u64 r] 147)) 25 (.int .u64 0) (.int .u64 0) (.int .u64 0) (.slice none 0 0) (.slice none 0 0)
  rw [size_alloc] at this; exact this
 go_enter Tryz.func124, Tryz.ntmps124
 go_upto_region 4 with (fail)
 generalize ((w.alloc (.cells #[.int .u64 p, .int .u64 (q + 1), .int .u64 r] 147)).alloc (.cells #[.int .u64 0, .int .u64 0, .int .u64 0, .slice none 0 0, .slice none 0 0] 25)) = W at HB0 K1 K2 ⊢
 have hcl := clear1 W w.heap.size _ _ _ K1.out
 go_upto_region 5 with (simp only [hcl])
 have L1 : Hid (At3 (W.setCell ⟨w.heap.size, 2, none⟩ (.int .u64 0)) w.heap.size (.int .u64 p) (.int .u64 (q + 1)) (.int .u64 0)) := (At3.set2 K1.out (.int .u64 0))
 have L2 : Hid (At5 (W.setCell ⟨w.heap.size, 2, none⟩ (.int .u64 0)) (w.heap.size + 1) (.int .u64 0) (.int .u64 0) (.int .u64 0) (.slice none 0 0) (.slice none 0 0)) := (At5.beside K2.out (b' := w.heap.size) (o := 2) (by omega) (.int .u64 0))
 have B1 : Hid (Below w.heap.size w (W.setCell ⟨w.heap.size, 2, none⟩ (.int .u64 0))) := (HB0.out.setCell (by simp) _)
 generalize (W.setCell ⟨w.heap.size, 2, none⟩ (.int .u64 0)) = W1 at L1 L2 B1 ⊢
 clear hcl
 clear K1 K2 HB0
 obtain ⟨hz1, _, x0, x1, x2⟩ := L1.out
 obtain ⟨hz2, _, y0, y1, y2, y3, y4⟩ := L2.out
 go_wp2_with fail
 refine (first_int _ _ _ _).mono ?_
 rintro e w3 ⟨A, rfl, hr, hb3⟩
 have N2 := Lib.hid (L2.out.kept hb3 hz2)
 have B3 := Lib.hid (B1.out.trans (hb3.mono (by omega)))
 obtain ⟨hz3, hf, g0, g1, g2, g3, g4⟩ := N2.out
 have R := Lib.hid (hr.set5 g0 g1 g2 g3 g4 (by simp) (by simp) (by simp) (by simp) (by simp) (.int .u64 p) (.int .u64 (q + 1)) (.int .u64 0) (.slice A 1 1) (.slice none 0 0))
 have B4 : Hid (Below w.heap.size w (set5 w3 (w.heap.size + 1) (.int .u64 p) (.int .u64 (q + 1)) (.int .u64 0) (.slice A 1 1) (.slice none 0 0))) := (((((B3.out.setCell (by simp) _).setCell (by simp) _).setCell (by simp) _).setCell (by simp) _).setCell (by simp) _)
 have N3 := Lib.hid (N2.out.set5 (.int .u64 p) (.int .u64 (q + 1)) (.int .u64 0) (.slice A 1 1) (.slice none 0 0))
 clear hr hb3 x0 x1 x2 y0 y1 y2 y3 y4
 unfold set5 at B4 N3
 go_wp2
 generalize (((((w3.setCell ⟨w.heap.size + 1, 0, none⟩ (.int .u64 p)).setCell ⟨w.heap.size + 1, 1, none⟩ (.int .u64 (q + 1))).setCell ⟨w.heap.size + 1, 2, none⟩ (.int .u64 0)).setCell ⟨w.heap.size + 1, 3, none⟩ (.slice A 1 1)).setCell ⟨w.heap.size + 1, 4, none⟩ (.slice none 0 0)) = w4 at R B4 N3 ⊢
 obtain ⟨_, _, z0, z1, z2, z3, z4⟩ := N3.out
 exact bodyPost_ret (v := .tuple #[.agg #[.int .u64 p, .int .u64 (q + 1), .int .u64 0, .slice A 1 1, .slice none 0 0], .bool true]) (by simp [results, Tryz.results124, go_sem, z0, z1, z2, z3, z4]) rfl ⟨A, rfl, R.out, B4.out⟩

theorem endNo1 (p q r : Int) (w : World) (h1 : 9223372036854775807 ≤ q) :
  Calls Tryz.prog 124 #[.agg #[.int .u64 p, .int .u64 q, .int .u64 r], .int .i64 1] w (NoneZ w) := by
 have HB0 : Hid (Below w.heap.size w ((w.alloc (.cells #[.int .u64 p, .int .u64 q, .int .u64 r] 147)).alloc (.cells #[.int .u64 0, .int .u64 0, .int .u64 0, .slice none 0 0, .slice none 0 0] 25))) := ((Below.refl _ _).alloc (Nat.le_refl _) _).alloc (by simp) _
 go_enter Tryz.func124, Tryz.ntmps124
 go_wp2
 exact bodyPost_ret (v := .tuple #[.agg #[.int .u64 0, .int .u64 0, .int .u64 0, .slice none 0 0, .slice none 0 0], .bool false]) (by simp [results, Tryz.results124, go_sem]) rfl ⟨rfl, HB0.out⟩

theorem endAt2 (p q r : Int) (w : World) (h0 : 0 ≤ r) (h1 : r < 9223372036854775807) :
  Calls Tryz.prog 124 #[.agg #[.int .u64 p, .int .u64 q, .int .u64 r], .int .i64 2] w (EndZ w p q (r + 1)) := by
 have HB0 : Hid (Below w.heap.size w ((w.alloc (.cells #[.int .u64 p, .int .u64 q, .int .u64 (r + 1)] 147)).alloc (.cells #[.int .u64 0, .int .u64 0, .int .u64 0, .slice none 0 0, .slice none 0 0] 25))) := ((Below.refl _ _).alloc (Nat.le_refl _) _).alloc (by simp) _
 have K1 : Hid (At3 ((w.alloc (.cells #[.int .u64 p, .int .u64 q, .int .u64 (r + 1)] 147)).alloc (.cells #[.int .u64 0, .int .u64 0, .int .u64 0, .slice none 0 0, .slice none 0 0] 25)) w.heap.size (.int .u64 p) (.int .u64 q) (.int .u64 (r + 1))) := (At3.new w 147 _ _ _).kept ((Below.refl _ _).alloc (Nat.le_refl _) _) (by simp)
 have K2 : Hid (At5 ((w.alloc (.cells #[.int .u64 p, .int .u64 q, .int .u64 (r + 1)] 147)).alloc (.cells #[.int .u64 0, .int .u64 0, .int .u64 0, .slice none 0 0, .slice none 0 0] 25)) (w.heap.size + 1) (.int .u64 0) (.int .u64 0) (.int .u64 0) (.slice none 0 0) (.slice none 0 0)) := by
  have := At5.new (w.alloc (.cells #[.int .u64 p, .int .u64 q, .int .u64 (r + 1)] 147)) 25 (.int .u64 0) (.int .u64 0) (.int .u64 0) (.slice none 0 0) (.slice none 0 0)
  rw [size_alloc] at this; exact this
 go_enter Tryz.func124, Tryz.ntmps124
 go_upto_region 4 with (fail)
 generalize ((w.alloc (.cells #[.int .u64 p, .int .u64 q, .int .u64 (r + 1)] 147)).alloc (.cells #[.int .u64 0, .int .u64 0, .int .u64 0, .slice none 0 0, .slice none 0 0] 25)) = W at HB0 K1 K2 ⊢
 have hcl := clear0 W
 go_upto_region 5 with (simp only [hcl])
 have L1 := K1
 have L2 := K2
 have B1 := HB0
 have : ∃ W1, W1 = W := ⟨_, rfl⟩
 obtain ⟨W1, hW1⟩ := this
 rw [← hW1] at L1 L2 B1 ⊢
 clear hW1
 clear hcl
 clear K1 K2 HB0
 obtain ⟨hz1, _, x0, x1, x2⟩ := L1.out
 obtain ⟨hz2, _, y0, y1, y2, y3, y4⟩ := L2.out
 go_wp2_with fail
 refine (first_int _ _ _ _).mono ?_
 rintro e w3 ⟨A, rfl, hr, hb3⟩
 have N2 := Lib.hid (L2.out.kept hb3 hz2)
 have B3 := Lib.hid (B1.out.trans (hb3.mono (by omega)))
 obtain ⟨hz3, hf, g0, g1, g2, g3, g4⟩ := N2.out
 have R := Lib.hid (hr.set5 g0 g1 g2 g3 g4 (by simp) (by simp) (by simp) (by simp) (by simp) (.int .u64 p) (.int .u64 q) (.int .u64 (r + 1)) (.slice A 1 1) (.slice none 0 0))
 have B4 : Hid (Below w.heap.size w (set5 w3 (w.heap.size + 1) (.int .u64 p) (.int .u64 q) (.int .u64 (r + 1)) (.slice A 1 1) (.slice none 0 0))) := (((((B3.out.setCell (by simp) _).setCell (by simp) _).setCell (by simp) _).setCell (by simp) _).setCell (by simp) _)
 have N3 := Lib.hid (N2.out.set5 (.int .u64 p) (.int .u64 q) (.int .u64 (r + 1)) (.slice A 1 1) (.slice none 0 0))
 clear hr hb3 x0 x1 x2 y0 y1 y2 y3 y4
 unfold set5 at B4 N3
 go_wp2
 generalize (((((w3.setCell ⟨w.heap.size + 1, 0, none⟩ (.int .u64 p)).setCell ⟨w.heap.size + 1, 1, none⟩ (.int .u64 q)).setCell ⟨w.heap.size + 1, 2, none⟩ (.int .u64 (r + 1))).setCell ⟨w.heap.size + 1, 3, none⟩ (.slice A 1 1)).setCell ⟨w.heap.size + 1, 4, none⟩ (.slice none 0 0)) = w4 at R B4 N3 ⊢
 obtain ⟨_, _, z0, z1, z2, z3, z4⟩ := N3.out
 exact bodyPost_ret (v := .tuple #[.agg #[.int .u64 p, .int .u64 q, .int .u64 (r + 1), .slice A 1 1, .slice none 0 0], .bool true]) (by simp [results, Tryz.results124, go_sem, z0, z1, z2, z3, z4]) rfl ⟨A, rfl, R.out, B4.out⟩

theorem endNo2 (p q r : Int) (w : World) (h1 : 9223372036854775807 ≤ r) :
  Calls Tryz.prog 124 #[.agg #[.int .u64 p, .int .u64 q, .int .u64 r], .int .i64 2] w (NoneZ w) := by
 have HB0 : Hid (Below w.heap.size w ((w.alloc (.cells #[.int .u64 p, .int .u64 q, .int .u64 r] 147)).alloc (.cells #[.int .u64 0, .int .u64 0, .int .u64 0, .slice none 0 0, .slice none 0 0] 25))) := ((Below.refl _ _).alloc (Nat.le_refl _) _).alloc (by simp) _
 go_enter Tryz.func124, Tryz.ntmps124
 go_wp2
 exact bodyPost_ret (v := .tuple #[.agg #[.int .u64 0, .int .u64 0, .int .u64 0, .slice none 0 0, .slice none 0 0], .bool false]) (by simp [results, Tryz.results124, go_sem]) rfl ⟨rfl, HB0.out⟩
end Go.Proofs.YtgfbflnhjpbceaaGreatDoor.Prec
