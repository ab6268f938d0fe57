/-
  A cut in new memory (span.copied), its version without a build. Conditions: its rows lie where it says; few identifiers.
-/
import Derived.Test.YtdbdeadcffpbfaaGreatDoorSpOwn
import Derived.Deep.CutBlock
import Derived.Deep.DeepCutAuto
namespace Go.Proofs.YtdbdeadcffpbfaaGreatDoor.Span
open Go.RowKit Num Ident Semver Prec

theorem At6B.set4 {W : World} {b : Nat} {u0 u1 u2 u3 u4 u5 : Value} (h : At6B W b u0 u1 u2 u3 u4 u5) (v : Value) : At6B (W.setCell ⟨b, 4, none⟩ v) b u0 u1 u2 u3 v u5 := by
  obtain ⟨h1, h2, c0, c1, c2, c3, c4, c5⟩ := h
  refine ⟨by simpa using h1, fun o => by simp [go_sem, h2], ?_, ?_, ?_, ?_, ?_, ?_⟩ <;> simp [go_sem, c0, c1, c2, c3, c4, c5]
theorem At6B.set5 {W : World} {b : Nat} {u0 u1 u2 u3 u4 u5 : Value} (h : At6B W b u0 u1 u2 u3 u4 u5) (v : Value) : At6B (W.setCell ⟨b, 5, none⟩ v) b u0 u1 u2 u3 u4 v := by
  obtain ⟨h1, h2, c0, c1, c2, c3, c4, c5⟩ := h
  refine ⟨by simpa using h1, fun o => by simp [go_sem, h2], ?_, ?_, ?_, ?_, ?_, ?_⟩ <;> simp [go_sem, c0, c1, c2, c3, c4, c5]
theorem At6B.beside {W : World} {b b' o : Nat} {u0 u1 u2 u3 u4 u5 : Value} (h : At6B W b u0 u1 u2 u3 u4 u5) (hb : b ≠ b') (v : Value) : At6B (W.setCell ⟨b', o, none⟩ v) b u0 u1 u2 u3 u4 u5 := by
  obtain ⟨h1, h2, c0, c1, c2, c3, c4, c5⟩ := h
  have k : ∀ j, (W.setCell ⟨b', o, none⟩ v).cell? ⟨b, j, none⟩ = W.cell? ⟨b, j, none⟩ := fun j => World.cell?_setCell_other _ _ _ _ (by intro e; injection e with e; exact hb e.symm)
  exact ⟨by simpa using h1, fun o => by simp [go_sem, h2], (k 0).trans c0, (k 1).trans c1, (k 2).trans c2, (k 3).trans c3, (k 4).trans c4, (k 5).trans c5⟩
/-- Six stores, one behind the other. -/
def set6 (w : World) (b : Nat) (v0 v1 v2 v3 v4 v5 : Value) : World := (((((w.setCell ⟨b, 0, none⟩ v0).setCell ⟨b, 1, none⟩ v1).setCell ⟨b, 2, none⟩ v2).setCell ⟨b, 3, none⟩ v3).setCell ⟨b, 4, none⟩ v4).setCell ⟨b, 5, none⟩ v5
theorem At6B.set6 {W : World} {b : Nat} {u0 u1 u2 u3 u4 u5 : Value} (h : At6B W b u0 u1 u2 u3 u4 u5) (v0 v1 v2 v3 v4 v5 : Value) : At6B (Span.set6 W b v0 v1 v2 v3 v4 v5) b v0 v1 v2 v3 v4 v5 := by
  obtain ⟨h1, h2, c0, c1, c2, c3, c4, c5⟩ := h
  unfold Span.set6
  refine ⟨by simpa using h1, fun o => by simp [go_sem, h2], ?_, ?_, ?_, ?_, ?_, ?_⟩ <;> simp [go_sem, c0, c1, c2, c3, c4, c5]
theorem below_set6 {B : Nat} {a w : World} (h : Below B a w) {b : Nat} (hb : B ≤ b) (v0 v1 v2 v3 v4 v5 : Value) : Below B a (Span.set6 w b v0 v1 v2 v3 v4 v5) :=
  (((((h.setCell (p := ⟨b, 0, none⟩) hb v0).setCell (p := ⟨b, 1, none⟩) hb v1).setCell (p := ⟨b, 2, none⟩) hb v2).setCell (p := ⟨b, 3, none⟩) hb v3).setCell (p := ⟨b, 4, none⟩) hb v4).setCell (p := ⟨b, 5, none⟩) hb v5
theorem own_nil {w : World} {base : Nat} {e : TypeId} {size : Nat} {A : Option Addr} {n m c : Nat} {xs : List Value} (h : w.ownsRow base e size (.slice A m c) n xs) : A = none → c = 0 := by
  rintro rfl
  rcases h.2 with ⟨h1, _⟩ | ⟨g, cap, cur, h1, _⟩
  · injection h1
  · injection h1 with h2; cases h2
/-- A cut whose row the call itself made. -/
structure OwnC (w : World) (B : Nat) (r : RCut) : Prop where
  own : w.ownsRow B 9 1 (.slice r.A r.v.pre.length r.c) r.v.pre.length (strs r.v.pre)
  rb : r.B = none
  rd : r.d = 0
  build : r.v.build = []
  fit : Fit r.v.pre
theorem OwnC.lies {w : World} {B : Nat} {r : RCut} (h : OwnC w B r) : Lies w r := by
  obtain ⟨A, c, e, _, hr⟩ := SRow.of_own h.own
  injection e with e1 e2 e3
  subst e1
  exact ⟨hr, by rw [h.build]; exact SRow.none_ _ _, h.fit, by rw [h.build]; exact Fit.nil, own_nil h.own⟩
theorem own_mono {w : World} {B B' : Nat} {e : TypeId} {size : Nat} {v : Value} {n : Nat} {xs : List Value} (h : w.ownsRow B e size v n xs) (hB : B' ≤ B) : w.ownsRow B' e size v n xs := by
  refine ⟨h.1, ?_⟩
  rcases h.2 with h2 | ⟨g, cap, cur, hv, hg, r⟩
  · exact .inl h2
  · exact .inr ⟨g, cap, cur, hv, Nat.le_trans hB hg, r⟩
theorem OwnC.mono {w : World} {B B' : Nat} {r : RCut} (h : OwnC w B r) (hB : B' ≤ B) : OwnC w B' r := ⟨own_mono h.own hB, h.rb, h.rd, h.build, h.fit⟩
theorem OwnC.kept {w w' : World} {B : Nat} {r : RCut} (h : OwnC w B r) (hb : Below w.heap.size w w') : OwnC w' B r := ⟨own_below h.own hb, h.rb, h.rd, h.build, h.fit⟩
theorem OwnC.set {w : World} {B : Nat} {r : RCut} (h : OwnC w B r) {b o : Nat} (hb : b < B) (v : Value) : OwnC (w.setCell ⟨b, o, none⟩ v) B r := ⟨ownsRow_setCell_below h.own hb v, h.rb, h.rd, h.build, h.fit⟩
theorem OwnC.set6 {w : World} {B : Nat} {r : RCut} (h : OwnC w B r) {b : Nat} (hb : b < B) (v0 v1 v2 v3 v4 v5 : Value) : OwnC (Span.set6 w b v0 v1 v2 v3 v4 v5) B r := (((((h.set hb v0).set hb v1).set hb v2).set hb v3).set hb v4).set hb v5
theorem OwnC.grown {w w' : World} {B B2 : Nat} {r : RCut} {set : Value} {n : Nat} {xs : List Value} (h : OwnC w B r) (hs : w.ownsRow B2 37 12 set n xs) (hg : w.grownBy w' set.ownBlock) : OwnC w' B r :=
  ⟨h.own.kept hg (own_apart h.own hs (by decide)), h.rb, h.rd, h.build, h.fit⟩
/-- What copied leaves. -/
def CopiedPost (w : World) (r : RCut) (e : Ending) (w' : World) : Prop :=
  ∃ r' : RCut, e = .returned (.agg #[.int .i64 r'.kind, .int .u64 (r'.v.a : Int), .int .u64 (r'.v.b : Int), .int .u64 (r'.v.c : Int), .slice r'.A r'.v.pre.length r'.c, .slice r'.B r'.v.build.length r'.d]) ∧ r'.cut = ⟨r.kind, bare r.v⟩ ∧ OwnC w' w.heap.size r' ∧ Below w.heap.size w w'

set_option maxRecDepth 100000 in
set_option maxHeartbeats 3200000 in
theorem copied_any (r : RCut) (w : World) (h : Lies w r) (hn : r.v.pre.length ≤ 1000) :
    Calls Tryz.prog 36 #[.agg #[.int .i64 r.kind, .int .u64 (r.v.a : Int), .int .u64 (r.v.b : Int), .int .u64 (r.v.c : Int), .slice r.A r.v.pre.length r.c, .slice r.B r.v.build.length r.d]] w (CopiedPost w r) := by
  have HBa : Hid (Below w.heap.size w ((w.alloc (.cells #[.int .i64 r.kind, .int .u64 (r.v.a : Int), .int .u64 (r.v.b : Int), .int .u64 (r.v.c : Int), .slice r.A r.v.pre.length r.c, .slice r.B r.v.build.length r.d] 35)).alloc (.cells #[.int .i64 0, .int .u64 0, .int .u64 0, .int .u64 0, .slice none 0 0, .slice none 0 0] 35))) := ((Below.refl _ _).alloc (Nat.le_refl _) _).alloc (by simp) _
  have HL := Lib.hid (h.kept HBa.out)
  have K0 : Hid (At6B ((w.alloc (.cells #[.int .i64 r.kind, .int .u64 (r.v.a : Int), .int .u64 (r.v.b : Int), .int .u64 (r.v.c : Int), .slice r.A r.v.pre.length r.c, .slice r.B r.v.build.length r.d] 35)).alloc (.cells #[.int .i64 0, .int .u64 0, .int .u64 0, .int .u64 0, .slice none 0 0, .slice none 0 0] 35)) w.heap.size (.int .i64 r.kind) (.int .u64 (r.v.a : Int)) (.int .u64 (r.v.b : Int)) (.int .u64 (r.v.c : Int)) (.slice r.A r.v.pre.length r.c) (.slice r.B r.v.build.length r.d)) := (At6B.new w _ _ _ _ _ _ _).kept ((Below.refl _ _).alloc (Nat.le_refl _) _) (by simp)
  have J0 : Hid (At6B ((w.alloc (.cells #[.int .i64 r.kind, .int .u64 (r.v.a : Int), .int .u64 (r.v.b : Int), .int .u64 (r.v.c : Int), .slice r.A r.v.pre.length r.c, .slice r.B r.v.build.length r.d] 35)).alloc (.cells #[.int .i64 0, .int .u64 0, .int .u64 0, .int .u64 0, .slice none 0 0, .slice none 0 0] 35)) (w.heap.size + 1) (.int .i64 0) (.int .u64 0) (.int .u64 0) (.int .u64 0) (.slice none 0 0) (.slice none 0 0)) := by
    have := At6B.new (w.alloc (.cells #[.int .i64 r.kind, .int .u64 (r.v.a : Int), .int .u64 (r.v.b : Int), .int .u64 (r.v.c : Int), .slice r.A r.v.pre.length r.c, .slice r.B r.v.build.length r.d] 35)) 35 (.int .i64 0) (.int .u64 0) (.int .u64 0) (.int .u64 0) (.slice none 0 0) (.slice none 0 0)
    rw [size_alloc] at this; exact this
  clear h
  go_enter Tryz.func36, Tryz.ntmps36
  go_upto_region 1 with (fail)
  generalize ((w.alloc (.cells #[.int .i64 r.kind, .int .u64 (r.v.a : Int), .int .u64 (r.v.b : Int), .int .u64 (r.v.c : Int), .slice r.A r.v.pre.length r.c, .slice r.B r.v.build.length r.d] 35)).alloc (.cells #[.int .i64 0, .int .u64 0, .int .u64 0, .int .u64 0, .slice none 0 0, .slice none 0 0] 35)) = W at HBa HL K0 J0 ⊢
  obtain ⟨hz, _, x0, x1, x2, x3, x4, x5⟩ := K0.out
  have hy := J0.out.1
  go_upto_region 3 with (first
    | (at_builtin; refine wpList_append_strs _ rfl _ _ rfl W.heap.size _ 0 [] rfl (World.ownsRow_nil _ _ _ _) r.A r.v.pre.length r.c r.v.pre rfl HL.out.pre HL.out.npre (by omega) (Nat.le_refl _) ?_; intro v3 w3 ho hb3; rw [Nat.zero_add, List.nil_append] at ho; obtain ⟨A3, c3, rfl, hc3, hr3⟩ := SRow.of_own ho; have R3 : Hid (OwnC w3 W.heap.size ⟨r.kind, bare r.v, A3, c3, none, 0⟩) := ⟨ho, rfl, rfl, rfl, HL.out.fpre⟩; have K1 := Lib.hid (K0.out.kept hb3 hz); have J1 := Lib.hid (J0.out.kept hb3 hy); have B1 := Lib.hid (HBa.out.trans (hb3.mono HBa.out.size)); have hz3 := hb3.size; clear ho hr3 hb3 x0 x1 x2 x3 x4 x5; obtain ⟨_, hf, x0, x1, x2, x3, x4, x5⟩ := K1.out)
    | fail)
  have K2 := Lib.hid ((K1.out.set4 (.slice A3 r.v.pre.length c3)).set5 (.slice none 0 0))
  have J2 := Lib.hid ((J1.out.beside (b' := w.heap.size) (o := 4) (by omega) (.slice A3 r.v.pre.length c3)).beside (b' := w.heap.size) (o := 5) (by omega) (.slice none 0 0))
  have R4 := Lib.hid ((R3.out.set (b := w.heap.size) (o := 4) hz (.slice A3 r.v.pre.length c3)).set (b := w.heap.size) (o := 5) hz (.slice none 0 0))
  have B2 := Lib.hid ((B1.out.setCell (p := ⟨w.heap.size, 4, none⟩) (Nat.le_refl _) (.slice A3 r.v.pre.length c3)).setCell (p := ⟨w.heap.size, 5, none⟩) (Nat.le_refl _) (.slice none 0 0))
  clear x0 x1 x2 x3 x4 x5 R3 K1 J1 B1 hf
  generalize (w3.setCell ⟨w.heap.size, 4, none⟩ (.slice A3 r.v.pre.length c3)).setCell ⟨w.heap.size, 5, none⟩ (.slice none 0 0) = W4 at K2 J2 R4 B2 ⊢
  obtain ⟨_, _, x0, x1, x2, x3, x4, x5⟩ := K2.out
  obtain ⟨_, hg, y0, y1, y2, y3, y4, y5⟩ := J2.out
  have K3 := Lib.hid (J2.out.set6 (.int .i64 r.kind) (.int .u64 (r.v.a : Int)) (.int .u64 (r.v.b : Int)) (.int .u64 (r.v.c : Int)) (.slice A3 r.v.pre.length c3) (.slice none 0 0))
  have B3 := Lib.hid (below_set6 B2.out (b := w.heap.size + 1) (by omega) (.int .i64 r.kind) (.int .u64 (r.v.a : Int)) (.int .u64 (r.v.b : Int)) (.int .u64 (r.v.c : Int)) (.slice A3 r.v.pre.length c3) (.slice none 0 0))
  have R5 : Hid (OwnC (Span.set6 W4 (w.heap.size + 1) (.int .i64 r.kind) (.int .u64 (r.v.a : Int)) (.int .u64 (r.v.b : Int)) (.int .u64 (r.v.c : Int)) (.slice A3 r.v.pre.length c3) (.slice none 0 0)) W.heap.size ⟨r.kind, bare r.v, A3, c3, none, 0⟩) := R4.out.set6 hy _ _ _ _ _ _
  go_wp2
  change bodyPost _ _ _ _ _ (Span.set6 W4 (w.heap.size + 1) (.int .i64 r.kind) (.int .u64 (r.v.a : Int)) (.int .u64 (r.v.b : Int)) (.int .u64 (r.v.c : Int)) (.slice A3 r.v.pre.length c3) (.slice none 0 0))
  generalize Span.set6 W4 (w.heap.size + 1) (.int .i64 r.kind) (.int .u64 (r.v.a : Int)) (.int .u64 (r.v.b : Int)) (.int .u64 (r.v.c : Int)) (.slice A3 r.v.pre.length c3) (.slice none 0 0) = W5 at K3 B3 R5 ⊢
  obtain ⟨_, _, z0, z1, z2, z3, z4, z5⟩ := K3.out
  exact bodyPost_ret (v := .agg #[.int .i64 r.kind, .int .u64 (r.v.a : Int), .int .u64 (r.v.b : Int), .int .u64 (r.v.c : Int), .slice A3 r.v.pre.length c3, .slice none 0 0]) (by simp [results, Tryz.results36, go_sem, z0, z1, z2, z3, z4, z5]) rfl ⟨⟨r.kind, bare r.v, A3, c3, none, 0⟩, rfl, rfl, R5.out.mono HBa.out.size, B3.out⟩
end Go.Proofs.YtdbdeadcffpbfaaGreatDoor.Span
