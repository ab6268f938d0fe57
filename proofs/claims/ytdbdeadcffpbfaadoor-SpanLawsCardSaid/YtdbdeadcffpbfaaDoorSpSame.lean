/-
  Sets with like cuts are the same (span.Same, its yes). Conditions: the slices read as lists of spans whose cuts compare as 0, one by one.
-/
import Derived.Test.YtdbdeadcffpbfaaDoorSpCuts
import Derived.StillTailTactics
namespace Go.Proofs.YtdbdeadcffpbfaaDoor.Span
open Go.RowKit Num Ident Semver Prec

set_option maxRecDepth 100000 in
set_option maxHeartbeats 3200000 in
theorem same1_any (x y : RSp) (w : World) (h1 : LiesS w x) (h2 : LiesS w y) (e1 : cmpC x.lo.cut y.lo.cut = 0) (e2 : cmpC x.hi.cut y.hi.cut = 0) :
    Calls Tryd.prog 21 #[.agg #[.int .i64 x.lo.kind, .int .u64 (x.lo.v.a : Int), .int .u64 (x.lo.v.b : Int), .int .u64 (x.lo.v.c : Int), .slice x.lo.A x.lo.v.pre.length x.lo.c, .slice x.lo.B x.lo.v.build.length x.lo.d, .int .i64 x.hi.kind, .int .u64 (x.hi.v.a : Int), .int .u64 (x.hi.v.b : Int), .int .u64 (x.hi.v.c : Int), .slice x.hi.A x.hi.v.pre.length x.hi.c, .slice x.hi.B x.hi.v.build.length x.hi.d], .agg #[.int .i64 y.lo.kind, .int .u64 (y.lo.v.a : Int), .int .u64 (y.lo.v.b : Int), .int .u64 (y.lo.v.c : Int), .slice y.lo.A y.lo.v.pre.length y.lo.c, .slice y.lo.B y.lo.v.build.length y.lo.d, .int .i64 y.hi.kind, .int .u64 (y.hi.v.a : Int), .int .u64 (y.hi.v.b : Int), .int .u64 (y.hi.v.c : Int), .slice y.hi.A y.hi.v.pre.length y.hi.c, .slice y.hi.B y.hi.v.build.length y.hi.d]] w fun e w' => e = .returned (.bool true) ∧ Below w.heap.size w w' := by
  have HBa : Hid (Below w.heap.size w ((w.alloc (.cells #[.int .i64 x.lo.kind, .int .u64 (x.lo.v.a : Int), .int .u64 (x.lo.v.b : Int), .int .u64 (x.lo.v.c : Int), .slice x.lo.A x.lo.v.pre.length x.lo.c, .slice x.lo.B x.lo.v.build.length x.lo.d, .int .i64 x.hi.kind, .int .u64 (x.hi.v.a : Int), .int .u64 (x.hi.v.b : Int), .int .u64 (x.hi.v.c : Int), .slice x.hi.A x.hi.v.pre.length x.hi.c, .slice x.hi.B x.hi.v.build.length x.hi.d] 35)).alloc (.cells #[.int .i64 y.lo.kind, .int .u64 (y.lo.v.a : Int), .int .u64 (y.lo.v.b : Int), .int .u64 (y.lo.v.c : Int), .slice y.lo.A y.lo.v.pre.length y.lo.c, .slice y.lo.B y.lo.v.build.length y.lo.d, .int .i64 y.hi.kind, .int .u64 (y.hi.v.a : Int), .int .u64 (y.hi.v.b : Int), .int .u64 (y.hi.v.c : Int), .slice y.hi.A y.hi.v.pre.length y.hi.c, .slice y.hi.B y.hi.v.build.length y.hi.d] 35))) := ((Below.refl _ _).alloc (Nat.le_refl _) _).alloc (by simp) _
  have HL := Lib.hid (h1.kept HBa.out)
  have HM := Lib.hid (h2.kept HBa.out)
  have K0 : Hid (At12B ((w.alloc (.cells #[.int .i64 x.lo.kind, .int .u64 (x.lo.v.a : Int), .int .u64 (x.lo.v.b : Int), .int .u64 (x.lo.v.c : Int), .slice x.lo.A x.lo.v.pre.length x.lo.c, .slice x.lo.B x.lo.v.build.length x.lo.d, .int .i64 x.hi.kind, .int .u64 (x.hi.v.a : Int), .int .u64 (x.hi.v.b : Int), .int .u64 (x.hi.v.c : Int), .slice x.hi.A x.hi.v.pre.length x.hi.c, .slice x.hi.B x.hi.v.build.length x.hi.d] 35)).alloc (.cells #[.int .i64 y.lo.kind, .int .u64 (y.lo.v.a : Int), .int .u64 (y.lo.v.b : Int), .int .u64 (y.lo.v.c : Int), .slice y.lo.A y.lo.v.pre.length y.lo.c, .slice y.lo.B y.lo.v.build.length y.lo.d, .int .i64 y.hi.kind, .int .u64 (y.hi.v.a : Int), .int .u64 (y.hi.v.b : Int), .int .u64 (y.hi.v.c : Int), .slice y.hi.A y.hi.v.pre.length y.hi.c, .slice y.hi.B y.hi.v.build.length y.hi.d] 35)) w.heap.size (.int .i64 x.lo.kind) (.int .u64 (x.lo.v.a : Int)) (.int .u64 (x.lo.v.b : Int)) (.int .u64 (x.lo.v.c : Int)) (.slice x.lo.A x.lo.v.pre.length x.lo.c) (.slice x.lo.B x.lo.v.build.length x.lo.d) (.int .i64 x.hi.kind) (.int .u64 (x.hi.v.a : Int)) (.int .u64 (x.hi.v.b : Int)) (.int .u64 (x.hi.v.c : Int)) (.slice x.hi.A x.hi.v.pre.length x.hi.c) (.slice x.hi.B x.hi.v.build.length x.hi.d)) := (At12B.new w _ _ _ _ _ _ _ _ _ _ _ _ _).kept ((Below.refl _ _).alloc (Nat.le_refl _) _) (by simp)
  have J0 : Hid (At12B ((w.alloc (.cells #[.int .i64 x.lo.kind, .int .u64 (x.lo.v.a : Int), .int .u64 (x.lo.v.b : Int), .int .u64 (x.lo.v.c : Int), .slice x.lo.A x.lo.v.pre.length x.lo.c, .slice x.lo.B x.lo.v.build.length x.lo.d, .int .i64 x.hi.kind, .int .u64 (x.hi.v.a : Int), .int .u64 (x.hi.v.b : Int), .int .u64 (x.hi.v.c : Int), .slice x.hi.A x.hi.v.pre.length x.hi.c, .slice x.hi.B x.hi.v.build.length x.hi.d] 35)).alloc (.cells #[.int .i64 y.lo.kind, .int .u64 (y.lo.v.a : Int), .int .u64 (y.lo.v.b : Int), .int .u64 (y.lo.v.c : Int), .slice y.lo.A y.lo.v.pre.length y.lo.c, .slice y.lo.B y.lo.v.build.length y.lo.d, .int .i64 y.hi.kind, .int .u64 (y.hi.v.a : Int), .int .u64 (y.hi.v.b : Int), .int .u64 (y.hi.v.c : Int), .slice y.hi.A y.hi.v.pre.length y.hi.c, .slice y.hi.B y.hi.v.build.length y.hi.d] 35)) (w.heap.size + 1) (.int .i64 y.lo.kind) (.int .u64 (y.lo.v.a : Int)) (.int .u64 (y.lo.v.b : Int)) (.int .u64 (y.lo.v.c : Int)) (.slice y.lo.A y.lo.v.pre.length y.lo.c) (.slice y.lo.B y.lo.v.build.length y.lo.d) (.int .i64 y.hi.kind) (.int .u64 (y.hi.v.a : Int)) (.int .u64 (y.hi.v.b : Int)) (.int .u64 (y.hi.v.c : Int)) (.slice y.hi.A y.hi.v.pre.length y.hi.c) (.slice y.hi.B y.hi.v.build.length y.hi.d)) := by
    have := At12B.new (w.alloc (.cells #[.int .i64 x.lo.kind, .int .u64 (x.lo.v.a : Int), .int .u64 (x.lo.v.b : Int), .int .u64 (x.lo.v.c : Int), .slice x.lo.A x.lo.v.pre.length x.lo.c, .slice x.lo.B x.lo.v.build.length x.lo.d, .int .i64 x.hi.kind, .int .u64 (x.hi.v.a : Int), .int .u64 (x.hi.v.b : Int), .int .u64 (x.hi.v.c : Int), .slice x.hi.A x.hi.v.pre.length x.hi.c, .slice x.hi.B x.hi.v.build.length x.hi.d] 35)) 35 (.int .i64 y.lo.kind) (.int .u64 (y.lo.v.a : Int)) (.int .u64 (y.lo.v.b : Int)) (.int .u64 (y.lo.v.c : Int)) (.slice y.lo.A y.lo.v.pre.length y.lo.c) (.slice y.lo.B y.lo.v.build.length y.lo.d) (.int .i64 y.hi.kind) (.int .u64 (y.hi.v.a : Int)) (.int .u64 (y.hi.v.b : Int)) (.int .u64 (y.hi.v.c : Int)) (.slice y.hi.A y.hi.v.pre.length y.hi.c) (.slice y.hi.B y.hi.v.build.length y.hi.d)
    rw [size_alloc] at this; exact this
  have E1 := Lib.hid e1
  have E2 := Lib.hid e2
  clear h1 h2 e1 e2
  go_enter Tryd.func21, Tryd.ntmps21
  go_upto_region 1 with (fail)
  generalize ((w.alloc (.cells #[.int .i64 x.lo.kind, .int .u64 (x.lo.v.a : Int), .int .u64 (x.lo.v.b : Int), .int .u64 (x.lo.v.c : Int), .slice x.lo.A x.lo.v.pre.length x.lo.c, .slice x.lo.B x.lo.v.build.length x.lo.d, .int .i64 x.hi.kind, .int .u64 (x.hi.v.a : Int), .int .u64 (x.hi.v.b : Int), .int .u64 (x.hi.v.c : Int), .slice x.hi.A x.hi.v.pre.length x.hi.c, .slice x.hi.B x.hi.v.build.length x.hi.d] 35)).alloc (.cells #[.int .i64 y.lo.kind, .int .u64 (y.lo.v.a : Int), .int .u64 (y.lo.v.b : Int), .int .u64 (y.lo.v.c : Int), .slice y.lo.A y.lo.v.pre.length y.lo.c, .slice y.lo.B y.lo.v.build.length y.lo.d, .int .i64 y.hi.kind, .int .u64 (y.hi.v.a : Int), .int .u64 (y.hi.v.b : Int), .int .u64 (y.hi.v.c : Int), .slice y.hi.A y.hi.v.pre.length y.hi.c, .slice y.hi.B y.hi.v.build.length y.hi.d] 35)) = W at HBa HL HM K0 J0 ⊢
  obtain ⟨hz, _, x0, x1, x2, x3, x4, x5, x6, x7, x8, x9, x10, x11⟩ := K0.out
  obtain ⟨hy, _, y0, y1, y2, y3, y4, y5, y6, y7, y8, y9, y10, y11⟩ := J0.out
  go_wp2_with fail
  refine (compareC_any x.lo y.lo _ HL.out.lo HM.out.lo).mono ?_
  rintro e w1 ⟨he, hb1⟩
  rw [E1.out] at he
  subst he
  have K1 := Lib.hid (K0.out.kept hb1 hz)
  have J1 := Lib.hid (J0.out.kept hb1 hy)
  have L1 := Lib.hid (HL.out.kept hb1)
  have M1 := Lib.hid (HM.out.kept hb1)
  have B1 := Lib.hid (HBa.out.trans (hb1.mono HBa.out.size))
  clear hb1 hz hy
  clear x0 x1 x2 x3 x4 x5 x6 x7 x8 x9 x10 x11 y0 y1 y2 y3 y4 y5 y6 y7 y8 y9 y10 y11
  obtain ⟨hz1, _, x0, x1, x2, x3, x4, x5, x6, x7, x8, x9, x10, x11⟩ := K1.out
  obtain ⟨hy1, _, y0, y1, y2, y3, y4, y5, y6, y7, y8, y9, y10, y11⟩ := J1.out
  go_wp2_with fail
  refine (compareC_any x.hi y.hi _ L1.out.hi M1.out.hi).mono ?_
  rintro e w2 ⟨he, hb2⟩
  rw [E2.out] at he
  subst he
  have B2 := Lib.hid (B1.out.trans (hb2.mono B1.out.size))
  clear hb2 hz1 hy1
  clear x0 x1 x2 x3 x4 x5 x6 x7 x8 x9 x10 x11 y0 y1 y2 y3 y4 y5 y6 y7 y8 y9 y10 y11
  go_wp2
  go_ret
  exact ⟨rfl, B2.out⟩

/-- Cuts compare as 0, one by one. -/
def Zero (l r : List RSp) (n : Nat) : Prop := ∀ i, i < n → cmpC (l.getD i default).lo.cut (r.getD i default).lo.cut = 0 ∧ cmpC (l.getD i default).hi.cut (r.getD i default).hi.cut = 0
def EqJ (w : World) (n : Nat) (i : Value) (W : World) : Prop := ∃ k : Nat, k ≤ n ∧ i = .int .i64 k ∧ Below w.heap.size w W
set_option maxRecDepth 100000 in
set_option maxHeartbeats 6400000 in
theorem equal_any (A : Option Addr) (n ca : Nat) (l : List RSp) (B : Option Addr) (cb : Nat) (r : List RSp) (w : World) (hr : SpRow w A n l) (hr2 : SpRow w B n r) (hn : n ≤ 100000) (he : Zero l r n) :
    Calls Tryd.prog 20 #[.slice A n ca, .slice B n cb, .func (.func 21) #[] #[]] w fun e w' => e = .returned (.bool true) ∧ Below w.heap.size w w' := by
  have HR := Lib.hid hr
  have HR2 := Lib.hid hr2
  have HE := Lib.hid he
  clear hr hr2 he
  go_enter Tryd.func20, Tryd.ntmps20
  go_wp2
  go_loopw [17] (fun i W => EqJ w n i W) (fun i _ => n - (intOf i).toNat)
  case atStart => exact ⟨0, Nat.zero_le _, rfl, Below.refl _ _⟩
  case round =>
    obtain ⟨k, hk, rfl, hbel⟩ := hrel
    have HB := Lib.hid hbel
    have hsz := hbel.size
    clear hbel
    by_cases hlt : k < n
    · obtain ⟨b, o, rfl, hb, hc⟩ := (HR.out.kept HB.out).2.2 (by omega)
      obtain ⟨b2, o2, rfl, hb2, hc2⟩ := (HR2.out.kept HB.out).2.2 (by omega)
      obtain ⟨x0, x1, x2, x3, x4, x5, x6, x7, x8, x9, x10, x11⟩ := SpRow.cells hc hlt
      have HC2 := Lib.hid (SpRow.cells hc2 hlt)
      have HS := Lib.hid ((HR.out.lies hlt).kept HB.out)
      have HT := Lib.hid ((HR2.out.lies hlt).kept HB.out)
      have HZ := Lib.hid (HE.out k hlt)
      clear hc hc2
      generalize l.getD k default = s at x0 x1 x2 x3 x4 x5 x6 x7 x8 x9 x10 x11 HS HZ
      generalize r.getD k default = t at HC2 HT HZ
      have A1 : Hid (Below wr.heap.size wr (wr.alloc (.cells #[.int .i64 s.lo.kind, .int .u64 (s.lo.v.a : Int), .int .u64 (s.lo.v.b : Int), .int .u64 (s.lo.v.c : Int), .slice s.lo.A s.lo.v.pre.length s.lo.c, .slice s.lo.B s.lo.v.build.length s.lo.d, .int .i64 s.hi.kind, .int .u64 (s.hi.v.a : Int), .int .u64 (s.hi.v.b : Int), .int .u64 (s.hi.v.c : Int), .slice s.hi.A s.hi.v.pre.length s.hi.c, .slice s.hi.B s.hi.v.build.length s.hi.d] 35))) := (Below.refl _ _).alloc (Nat.le_refl _) _
      have K1 : Hid (At12B (wr.alloc (.cells #[.int .i64 s.lo.kind, .int .u64 (s.lo.v.a : Int), .int .u64 (s.lo.v.b : Int), .int .u64 (s.lo.v.c : Int), .slice s.lo.A s.lo.v.pre.length s.lo.c, .slice s.lo.B s.lo.v.build.length s.lo.d, .int .i64 s.hi.kind, .int .u64 (s.hi.v.a : Int), .int .u64 (s.hi.v.b : Int), .int .u64 (s.hi.v.c : Int), .slice s.hi.A s.hi.v.pre.length s.hi.c, .slice s.hi.B s.hi.v.build.length s.hi.d] 35)) wr.heap.size (.int .i64 s.lo.kind) (.int .u64 (s.lo.v.a : Int)) (.int .u64 (s.lo.v.b : Int)) (.int .u64 (s.lo.v.c : Int)) (.slice s.lo.A s.lo.v.pre.length s.lo.c) (.slice s.lo.B s.lo.v.build.length s.lo.d) (.int .i64 s.hi.kind) (.int .u64 (s.hi.v.a : Int)) (.int .u64 (s.hi.v.b : Int)) (.int .u64 (s.hi.v.c : Int)) (.slice s.hi.A s.hi.v.pre.length s.hi.c) (.slice s.hi.B s.hi.v.build.length s.hi.d)) := At12B.new wr _ _ _ _ _ _ _ _ _ _ _ _ _
      go_upto_region 6 with (fail)
      generalize (wr.alloc (.cells #[.int .i64 s.lo.kind, .int .u64 (s.lo.v.a : Int), .int .u64 (s.lo.v.b : Int), .int .u64 (s.lo.v.c : Int), .slice s.lo.A s.lo.v.pre.length s.lo.c, .slice s.lo.B s.lo.v.build.length s.lo.d, .int .i64 s.hi.kind, .int .u64 (s.hi.v.a : Int), .int .u64 (s.hi.v.b : Int), .int .u64 (s.hi.v.c : Int), .slice s.hi.A s.hi.v.pre.length s.hi.c, .slice s.hi.B s.hi.v.build.length s.hi.d] 35)) = W1 at A1 K1 ⊢
      clear x0 x1 x2 x3 x4 x5 x6 x7 x8 x9 x10 x11
      have Y1 : Hid (W1.cell? ⟨b2, o2 + k * 12, none⟩ = some (.int .i64 t.lo.kind) ∧ W1.cell? ⟨b2, o2 + k * 12 + 1, none⟩ = some (.int .u64 (t.lo.v.a : Int)) ∧ W1.cell? ⟨b2, o2 + k * 12 + 2, none⟩ = some (.int .u64 (t.lo.v.b : Int)) ∧ W1.cell? ⟨b2, o2 + k * 12 + 3, none⟩ = some (.int .u64 (t.lo.v.c : Int)) ∧ W1.cell? ⟨b2, o2 + k * 12 + 4, none⟩ = some (.slice t.lo.A t.lo.v.pre.length t.lo.c) ∧ W1.cell? ⟨b2, o2 + k * 12 + 5, none⟩ = some (.slice t.lo.B t.lo.v.build.length t.lo.d) ∧ W1.cell? ⟨b2, o2 + k * 12 + 6, none⟩ = some (.int .i64 t.hi.kind) ∧ W1.cell? ⟨b2, o2 + k * 12 + 7, none⟩ = some (.int .u64 (t.hi.v.a : Int)) ∧ W1.cell? ⟨b2, o2 + k * 12 + 8, none⟩ = some (.int .u64 (t.hi.v.b : Int)) ∧ W1.cell? ⟨b2, o2 + k * 12 + 9, none⟩ = some (.int .u64 (t.hi.v.c : Int)) ∧ W1.cell? ⟨b2, o2 + k * 12 + 10, none⟩ = some (.slice t.hi.A t.hi.v.pre.length t.hi.c) ∧ W1.cell? ⟨b2, o2 + k * 12 + 11, none⟩ = some (.slice t.hi.B t.hi.v.build.length t.hi.d)) := by
        obtain ⟨y0, y1, y2, y3, y4, y5, y6, y7, y8, y9, y10, y11⟩ := HC2.out
        exact ⟨(A1.out.cell (p := ⟨b2, o2 + k * 12, none⟩) hb2).trans y0, (A1.out.cell (p := ⟨b2, o2 + k * 12 + 1, none⟩) hb2).trans y1, (A1.out.cell (p := ⟨b2, o2 + k * 12 + 2, none⟩) hb2).trans y2, (A1.out.cell (p := ⟨b2, o2 + k * 12 + 3, none⟩) hb2).trans y3, (A1.out.cell (p := ⟨b2, o2 + k * 12 + 4, none⟩) hb2).trans y4, (A1.out.cell (p := ⟨b2, o2 + k * 12 + 5, none⟩) hb2).trans y5, (A1.out.cell (p := ⟨b2, o2 + k * 12 + 6, none⟩) hb2).trans y6, (A1.out.cell (p := ⟨b2, o2 + k * 12 + 7, none⟩) hb2).trans y7, (A1.out.cell (p := ⟨b2, o2 + k * 12 + 8, none⟩) hb2).trans y8, (A1.out.cell (p := ⟨b2, o2 + k * 12 + 9, none⟩) hb2).trans y9, (A1.out.cell (p := ⟨b2, o2 + k * 12 + 10, none⟩) hb2).trans y10, (A1.out.cell (p := ⟨b2, o2 + k * 12 + 11, none⟩) hb2).trans y11⟩
      obtain ⟨y0, y1, y2, y3, y4, y5, y6, y7, y8, y9, y10, y11⟩ := Y1.out
      have A2 : Hid (Below W1.heap.size W1 (W1.alloc (.cells #[.int .i64 t.lo.kind, .int .u64 (t.lo.v.a : Int), .int .u64 (t.lo.v.b : Int), .int .u64 (t.lo.v.c : Int), .slice t.lo.A t.lo.v.pre.length t.lo.c, .slice t.lo.B t.lo.v.build.length t.lo.d, .int .i64 t.hi.kind, .int .u64 (t.hi.v.a : Int), .int .u64 (t.hi.v.b : Int), .int .u64 (t.hi.v.c : Int), .slice t.hi.A t.hi.v.pre.length t.hi.c, .slice t.hi.B t.hi.v.build.length t.hi.d] 35))) := (Below.refl _ _).alloc (Nat.le_refl _) _
      have J2 : Hid (At12B (W1.alloc (.cells #[.int .i64 t.lo.kind, .int .u64 (t.lo.v.a : Int), .int .u64 (t.lo.v.b : Int), .int .u64 (t.lo.v.c : Int), .slice t.lo.A t.lo.v.pre.length t.lo.c, .slice t.lo.B t.lo.v.build.length t.lo.d, .int .i64 t.hi.kind, .int .u64 (t.hi.v.a : Int), .int .u64 (t.hi.v.b : Int), .int .u64 (t.hi.v.c : Int), .slice t.hi.A t.hi.v.pre.length t.hi.c, .slice t.hi.B t.hi.v.build.length t.hi.d] 35)) W1.heap.size (.int .i64 t.lo.kind) (.int .u64 (t.lo.v.a : Int)) (.int .u64 (t.lo.v.b : Int)) (.int .u64 (t.lo.v.c : Int)) (.slice t.lo.A t.lo.v.pre.length t.lo.c) (.slice t.lo.B t.lo.v.build.length t.lo.d) (.int .i64 t.hi.kind) (.int .u64 (t.hi.v.a : Int)) (.int .u64 (t.hi.v.b : Int)) (.int .u64 (t.hi.v.c : Int)) (.slice t.hi.A t.hi.v.pre.length t.hi.c) (.slice t.hi.B t.hi.v.build.length t.hi.d)) := At12B.new W1 _ _ _ _ _ _ _ _ _ _ _ _ _
      have K2 := Lib.hid (K1.out.kept A2.out K1.out.1)
      go_upto_region 7 with (fail)
      generalize (W1.alloc (.cells #[.int .i64 t.lo.kind, .int .u64 (t.lo.v.a : Int), .int .u64 (t.lo.v.b : Int), .int .u64 (t.lo.v.c : Int), .slice t.lo.A t.lo.v.pre.length t.lo.c, .slice t.lo.B t.lo.v.build.length t.lo.d, .int .i64 t.hi.kind, .int .u64 (t.hi.v.a : Int), .int .u64 (t.hi.v.b : Int), .int .u64 (t.hi.v.c : Int), .slice t.hi.A t.hi.v.pre.length t.hi.c, .slice t.hi.B t.hi.v.build.length t.hi.d] 35)) = W2 at A2 J2 K2 ⊢
      clear y0 y1 y2 y3 y4 y5 y6 y7 y8 y9 y10 y11
      obtain ⟨hz1, _, x0, x1, x2, x3, x4, x5, x6, x7, x8, x9, x10, x11⟩ := K2.out
      obtain ⟨hz2, _, y0, y1, y2, y3, y4, y5, y6, y7, y8, y9, y10, y11⟩ := J2.out
      have B2 := Lib.hid ((HB.out.trans (A1.out.mono hsz)).trans (A2.out.mono (Nat.le_trans hsz A1.out.size)))
      go_wp2_with fail
      refine (same1_any s t _ ((HS.out.kept A1.out).kept A2.out) ((HT.out.kept A1.out).kept A2.out) HZ.out.1 HZ.out.2).mono ?_
      rintro e w3 ⟨rfl, hb3⟩
      have B3 := Lib.hid (B2.out.trans (hb3.mono B2.out.size))
      clear hb3 hz1 hz2 x0 x1 x2 x3 x4 x5 x6 x7 x8 x9 x10 x11 y0 y1 y2 y3 y4 y5 y6 y7 y8 y9 y10 y11
      go_wp2
      exact ⟨⟨k + 1, by omega, by go_num, B3.out⟩, by simp [intOf]; omega⟩
    · go_wp2
      go_ret
      exact ⟨rfl, HB.out⟩

set_option maxRecDepth 100000 in
set_option maxHeartbeats 1600000 in
theorem sameS_any (A : Option Addr) (n ca : Nat) (l : List RSp) (B : Option Addr) (cb : Nat) (r : List RSp) (w : World) (hr : SpRow w A n l) (hr2 : SpRow w B n r) (hn : n ≤ 100000) (he : Zero l r n) :
    Calls Tryd.prog 9 #[.slice A n ca, .slice B n cb] w fun e w' => e = .returned (.bool true) ∧ Below w.heap.size w w' := by
  go_enter Tryd.func9, Tryd.ntmps9
  go_wp2_with fail
  refine (equal_any A n ca l B cb r _ hr hr2 hn he).mono ?_
  rintro e w1 ⟨rfl, hb1⟩
  clear hr hr2 he
  go_wp2
  go_ret
  exact ⟨rfl, hb1⟩
end Go.Proofs.YtdbdeadcffpbfaaDoor.Span
