/-
  A new span put behind the others (a region of ferruleref05.Build). Conditions: the call owns the slice of spans; the two cuts' cells lie ahead of it.
  Sets with like cuts are the same, by the document's own answer (ferruleref05.Same, its yes). Conditions: the slices read as lists of spans whose cuts compare as 0, one by one.
  The normal set that the document builds cut by cut (ferruleref05.Build). Conditions: the slices read as lists of spans; there aren't too many.
  SpanSets: the normal set of any spans, and of what is in one or both, in both, not in one, is as the document says. Conditions: the slices read as lists of spans.
-/
import Derived.Test.YtdbdeadcffpbfaaGreatDoorSpCutsAll
import Derived.Test.YtdbdeadcffpbfaaGreatDoorSpSweepJ
import Derived.Laws.OwnMore
import Derived.Test.YtdbdeadcffpbfaaGreatDoorSpLawAll
import Derived.Test.YtdbdeadcffpbfaaGreatDoorSpRefAll
import Derived.Deep.RegionHeld3
namespace Go.Proofs.YtdbdeadcffpbfaaGreatDoor.Span
open Go.RowKit Num Ident Semver Prec

theorem snoc_of {out : List RSp} {c : Cut} (h : ∃ pre s, out.map RSp.sp = pre ++ [s] ∧ s.hi = c) : ∃ (pre : List RSp) (s : RSp), out = pre ++ [s] ∧ s.sp.hi = c := by
  obtain ⟨p, s, e, hs⟩ := h
  rcases List.eq_nil_or_concat out with rfl | ⟨q, t, rfl⟩
  · simp at e
  · rw [List.concat_eq_append, List.map_append] at e
    obtain ⟨_, e2⟩ := List.append_inj' e rfl
    refine ⟨q, t, by simp, ?_⟩
    have : t.sp = s := by simpa using e2
    rw [this]; exact hs
theorem own_last {w : World} {B : Nat} {v : Value} {pre : List RSp} {s : RSp} (h : w.ownsRow B 37 12 v (pre ++ [s]).length ((pre ++ [s]).flatMap RSp.vals)) : ∃ g c, v = .slice (some ⟨g, 0, none⟩) (pre ++ [s]).length c ∧ g < w.heap.size ∧ (pre ++ [s]).length ≤ c ∧ c ≤ maxLen ∧ B ≤ g := by
  rcases h.2 with ⟨_, h1⟩ | ⟨g, cap, cur, rfl, hb, hg, hnc, hcm, _⟩
  · simp at h1
  · exact ⟨g, cap, rfl, (Array.getElem?_eq_some_iff.1 hg).1, hnc, hcm, hb⟩
/-- Six stores, one behind the other, from a place on. -/
def setAt (w : World) (b o : Nat) (v0 v1 v2 v3 v4 v5 : Value) : World := (((((w.setCell ⟨b, o, none⟩ v0).setCell ⟨b, o + 1, none⟩ v1).setCell ⟨b, o + 2, none⟩ v2).setCell ⟨b, o + 3, none⟩ v3).setCell ⟨b, o + 4, none⟩ v4).setCell ⟨b, o + 5, none⟩ v5
theorem below_setAt {B : Nat} {a w : World} (h : Below B a w) {b : Nat} (hb : B ≤ b) (o : Nat) (v0 v1 v2 v3 v4 v5 : Value) : Below B a (setAt w b o v0 v1 v2 v3 v4 v5) :=
  (((((h.setCell (p := ⟨b, o, none⟩) hb v0).setCell (p := ⟨b, o + 1, none⟩) hb v1).setCell (p := ⟨b, o + 2, none⟩) hb v2).setCell (p := ⟨b, o + 3, none⟩) hb v3).setCell (p := ⟨b, o + 4, none⟩) hb v4).setCell (p := ⟨b, o + 5, none⟩) hb v5
theorem set_hi (P : List Value) (s : RSp) (c : RCut) : ((((((P ++ s.vals).set (P.length + 6) (.int .i64 c.kind)).set (P.length + 6 + 1) (.int .u64 (c.v.a : Int))).set (P.length + 6 + 2) (.int .u64 (c.v.b : Int))).set (P.length + 6 + 3) (.int .u64 (c.v.c : Int))).set (P.length + 6 + 4) (.slice c.A c.v.pre.length c.c)).set (P.length + 6 + 5) (.slice c.B c.v.build.length c.d) = P ++ (RSp.mk s.lo c).vals := by
  simp only [Nat.add_assoc]
  repeat rw [List.set_append_right _ _ (by omega)]
  simp only [Nat.add_sub_cancel_left]; rfl
theorem own_hi {w : World} {B g cap : Nat} {pre : List RSp} {s : RSp} (c : RCut) (h : w.ownsRow B 37 12 (.slice (some ⟨g, 0, none⟩) (pre.length + 1) cap) (pre.length + 1) ((pre ++ [s]).flatMap RSp.vals)) :
    (setAt w g (pre.length * 12 + 6) (.int .i64 c.kind) (.int .u64 (c.v.a : Int)) (.int .u64 (c.v.b : Int)) (.int .u64 (c.v.c : Int)) (.slice c.A c.v.pre.length c.c) (.slice c.B c.v.build.length c.d)).ownsRow B 37 12 (.slice (some ⟨g, 0, none⟩) (pre.length + 1) cap) (pre.length + 1) ((pre ++ [(⟨s.lo, c⟩ : RSp)]).flatMap RSp.vals) := by
  have h1 := ((((((h.stored (pre.length * 12 + 6) (.int .i64 c.kind)).1.stored (pre.length * 12 + 6 + 1) (.int .u64 (c.v.a : Int))).1.stored (pre.length * 12 + 6 + 2) (.int .u64 (c.v.b : Int))).1.stored (pre.length * 12 + 6 + 3) (.int .u64 (c.v.c : Int))).1.stored (pre.length * 12 + 6 + 4) (.slice c.A c.v.pre.length c.c)).1.stored (pre.length * 12 + 6 + 5) (.slice c.B c.v.build.length c.d)).1
  have e := set_hi (pre.flatMap RSp.vals) s c
  rw [flat_len RSp.vals 12 svals_len] at e
  have e2 : (pre ++ [s]).flatMap RSp.vals = pre.flatMap RSp.vals ++ s.vals := by rw [List.flatMap_append]; simp
  have e3 : (pre ++ [(⟨s.lo, c⟩ : RSp)]).flatMap RSp.vals = pre.flatMap RSp.vals ++ (RSp.mk s.lo c).vals := by rw [List.flatMap_append]; simp
  rw [e2, e] at h1
  rw [e3]; exact h1
theorem cells_kept {W W' : World} {g a : Nat} {u0 u1 u2 u3 u4 u5 : Value} (h : W.cell? ⟨g, a, none⟩ = some u0 ∧ W.cell? ⟨g, a + 1, none⟩ = some u1 ∧ W.cell? ⟨g, a + 2, none⟩ = some u2 ∧ W.cell? ⟨g, a + 3, none⟩ = some u3 ∧ W.cell? ⟨g, a + 4, none⟩ = some u4 ∧ W.cell? ⟨g, a + 5, none⟩ = some u5) (hg : g < W.heap.size) (hb : Below W.heap.size W W') :
    W'.cell? ⟨g, a, none⟩ = some u0 ∧ W'.cell? ⟨g, a + 1, none⟩ = some u1 ∧ W'.cell? ⟨g, a + 2, none⟩ = some u2 ∧ W'.cell? ⟨g, a + 3, none⟩ = some u3 ∧ W'.cell? ⟨g, a + 4, none⟩ = some u4 ∧ W'.cell? ⟨g, a + 5, none⟩ = some u5 :=
  ⟨(hb.cell (p := ⟨g, a, none⟩) hg).trans h.1, (hb.cell (p := ⟨g, a + 1, none⟩) hg).trans h.2.1, (hb.cell (p := ⟨g, a + 2, none⟩) hg).trans h.2.2.1, (hb.cell (p := ⟨g, a + 3, none⟩) hg).trans h.2.2.2.1, (hb.cell (p := ⟨g, a + 4, none⟩) hg).trans h.2.2.2.2.1, (hb.cell (p := ⟨g, a + 5, none⟩) hg).trans h.2.2.2.2.2⟩
theorem own_hi_cells {w : World} {B g cap : Nat} {pre : List RSp} {s : RSp} (h : w.ownsRow B 37 12 (.slice (some ⟨g, 0, none⟩) (pre.length + 1) cap) (pre.length + 1) ((pre ++ [s]).flatMap RSp.vals)) : (∀ o, w.frozen? ⟨g, o, none⟩ = false) ∧ w.cell? ⟨g, pre.length * 12 + 6, none⟩ = some (.int .i64 s.hi.kind) ∧ w.cell? ⟨g, pre.length * 12 + 6 + 1, none⟩ = some (.int .u64 (s.hi.v.a : Int)) ∧ w.cell? ⟨g, pre.length * 12 + 6 + 2, none⟩ = some (.int .u64 (s.hi.v.b : Int)) ∧ w.cell? ⟨g, pre.length * 12 + 6 + 3, none⟩ = some (.int .u64 (s.hi.v.c : Int)) ∧ w.cell? ⟨g, pre.length * 12 + 6 + 4, none⟩ = some (.slice s.hi.A s.hi.v.pre.length s.hi.c) ∧ w.cell? ⟨g, pre.length * 12 + 6 + 5, none⟩ = some (.slice s.hi.B s.hi.v.build.length s.hi.d) := by
  have k : ∀ i u, i < 6 → s.vals[6 + i]? = some u → w.cell? ⟨g, pre.length * 12 + 6 + i, none⟩ = some u := fun i u hi hu => by
    have e : (pre ++ [s]).getD pre.length default = s := by simp [List.getD]
    have q := h.cells (g := g) rfl (pre.length * 12 + (6 + i)) u (by rw [flat_get RSp.vals 12 svals_len (pre ++ [s]) pre.length (6 + i) (by simp) (by omega), e]; exact hu)
    rw [add_none, Nat.zero_add, ← Nat.add_assoc] at q; exact q
  exact ⟨fun o => h.frozenAt o, k 0 _ (by omega) rfl, k 1 _ (by omega) rfl, k 2 _ (by omega) rfl, k 3 _ (by omega) rfl, k 4 _ (by omega) rfl, k 5 _ (by omega) rfl⟩
theorem own_drew {w : World} {B : Nat} {e : TypeId} {size : Nat} {v : Value} {n : Nat} {xs : List Value} (h : w.ownsRow B e size v n xs) : w.drew.ownsRow B e size v n xs := own_below h (Below.refl _ _).drew
set_option maxRecDepth 100000 in
set_option maxHeartbeats 12800000 in
theorem new15 {Q : Exit → Act → World → Prop} (wr : World) (g o cp k k1 B : Nat) (L : List RCut) (x y : RCut) (set : Value) (out : List RSp) (u0 u1 u2 u3 u4 u5 u6 u9 u11 u12 u13 u14 u15 u16 u17 u18 u19 u20 u21 u22 u23 u24 u25 u26 u27 u28 u29 u30 u31 u32 u33 u34 u35 u36 u37 u38 u39 u40 u41 u42 u43 u44 u45 u46 u47 u48 u49 u50 u51 u52 u53 u54 u55 u56 u57 u58 u59 u60 u61 u62 u63 u64 u65 u66 u67 u68 u69 u70 u71 u72 u73 u74 u75 u76 u77 u78 u79 u80 u81 u82 u83 u84 u85 u86 u87 u88 u89 u90 u91 u92 u93 u94 : Value) (hk1 : (k : Int) + 1 = (k1 : Int)) (hkL : k1 < L.length) (hLL : L.length ≤ 100000) (hol : out.length ≤ 100000) (hglB : g < B) (hB : B ≤ wr.heap.size)
    (cx : wr.cell? ⟨g, o + k * 6, none⟩ = some (.int .i64 x.kind) ∧ wr.cell? ⟨g, o + k * 6 + 1, none⟩ = some (.int .u64 (x.v.a : Int)) ∧ wr.cell? ⟨g, o + k * 6 + 2, none⟩ = some (.int .u64 (x.v.b : Int)) ∧ wr.cell? ⟨g, o + k * 6 + 3, none⟩ = some (.int .u64 (x.v.c : Int)) ∧ wr.cell? ⟨g, o + k * 6 + 4, none⟩ = some (.slice x.A x.v.pre.length x.c) ∧ wr.cell? ⟨g, o + k * 6 + 5, none⟩ = some (.slice x.B x.v.build.length x.d)) (cy : wr.cell? ⟨g, o + k1 * 6, none⟩ = some (.int .i64 y.kind) ∧ wr.cell? ⟨g, o + k1 * 6 + 1, none⟩ = some (.int .u64 (y.v.a : Int)) ∧ wr.cell? ⟨g, o + k1 * 6 + 2, none⟩ = some (.int .u64 (y.v.b : Int)) ∧ wr.cell? ⟨g, o + k1 * 6 + 3, none⟩ = some (.int .u64 (y.v.c : Int)) ∧ wr.cell? ⟨g, o + k1 * 6 + 4, none⟩ = some (.slice y.A y.v.pre.length y.c) ∧ wr.cell? ⟨g, o + k1 * 6 + 5, none⟩ = some (.slice y.B y.v.build.length y.d)) (ho : wr.ownsRow B 37 12 set out.length (out.flatMap RSp.vals))
    (hpan : ∀ x (a : Act) (d : Nat) v W, Q (.panic x) (a.put (some d) v) W → Q (.panic x) a W) (h : ∀ (v8 : Value) (W' : World) (t0 t1 t2 t3 t4 t5 t6 t7 t8 t9 t10 t11 t12 : Value), W'.ownsRow B 37 12 v8 (out.length + 1) ((out ++ [(⟨x, y⟩ : RSp)]).flatMap RSp.vals) → Below B wr W' → Q Exit.normal { tmps := #[u0, u1, u2, u3, u4, u5, u6, .slice (some ⟨g, o, none⟩) L.length cp, v8, u9, .int .i64 (k : Int), u11, u12, u13, u14, u15, u16, u17, u18, u19, u20, u21, u22, u23, u24, u25, u26, u27, u28, u29, u30, u31, u32, u33, u34, u35, u36, u37, u38, u39, u40, u41, u42, u43, u44, u45, u46, u47, u48, u49, u50, u51, u52, u53, u54, u55, u56, u57, u58, u59, u60, u61, u62, u63, u64, t0, t1, t2, t3, t4, t5, t6, t7, t8, t9, t10, t11, t12, u78, u79, u80, u81, u82, u83, u84, u85, u86, u87, u88, u89, u90, u91, u92, u93, u94], defers := [] } W') :
    (Code.region 15 #[{ dst := some 65, op := Op.move (Operand.tmp 8), type := 22, pos := "ref.go:112", after := #[], guard := none }, { dst := some 66, op := Op.move (Operand.tmp 7), type := 50, pos := "ref.go:112", after := #[], guard := none }, { dst := some 67, op := Op.move (Operand.tmp 10), type := 3, pos := "ref.go:112", after := #[], guard := none }, { dst := some 68, op := Op.indexAddr 50 (Operand.tmp 66) (Operand.tmp 67), type := 0, pos := "ref.go:112", after := #[{ on := 1, ground := Ground.data }, { on := 2, ground := Ground.data }], guard := none }, { dst := some 69, op := Op.load 35 (Operand.tmp 68), type := 35, pos := "ref.go:112", after := #[{ on := 3, ground := Ground.data }], guard := none }, { dst := some 70, op := Op.move (Operand.tmp 7), type := 50, pos := "ref.go:112", after := #[], guard := none }, { dst := some 71, op := Op.move (Operand.tmp 10), type := 3, pos := "ref.go:112", after := #[], guard := none }, { dst := some 72, op := Op.binOp BinOp.add 3 (Operand.tmp 71) (Operand.const (Value.int IntKind.i64 1)) 3, type := 3, pos := "ref.go:112", after := #[{ on := 6, ground := Ground.data }], guard := none }, { dst := some 73, op := Op.indexAddr 50 (Operand.tmp 70) (Operand.tmp 72), type := 0, pos := "ref.go:112", after := #[{ on := 5, ground := Ground.data }, { on := 7, ground := Ground.data }], guard := none }, { dst := some 74, op := Op.load 35 (Operand.tmp 73), type := 35, pos := "ref.go:112", after := #[{ on := 8, ground := Ground.data }], guard := none }, { dst := some 75, op := Op.build 37 #[(0, Operand.tmp 69), (1, Operand.tmp 74)], type := 37, pos := "ref.go:112", after := #[{ on := 4, ground := Ground.data }, { on := 9, ground := Ground.data }], guard := none }, { dst := some 76, op := Op.buildSlice 22 1 #[(0, Operand.tmp 75)], type := 22, pos := "ref.go:112", after := #[{ on := 10, ground := Ground.data }], guard := none }, { dst := some 77, op := Op.call { callee := Callee.builtin Builtin.append, args := #[Operand.tmp 65, Operand.tmp 76], argTypes := #[22, 22] }, type := 22, pos := "ref.go:112", after := #[{ on := 0, ground := Ground.data }, { on := 11, ground := Ground.data }], guard := none }, { dst := some 8, op := Op.assign (Operand.tmp 77), type := 22, pos := "ref.go:112", after := #[{ on := 12, ground := Ground.data }, { on := 12, ground := Ground.chain }, { on := 0, ground := Ground.phase }, { on := 1, ground := Ground.phase }, { on := 2, ground := Ground.phase }, { on := 3, ground := Ground.phase }, { on := 4, ground := Ground.phase }, { on := 5, ground := Ground.phase }, { on := 6, ground := Ground.phase }, { on := 7, ground := Ground.phase }, { on := 8, ground := Ground.phase }, { on := 9, ground := Ground.phase }, { on := 10, ground := Ground.phase }, { on := 11, ground := Ground.phase }, { on := 12, ground := Ground.phase }], guard := none }] true).wp Tryz.prog Q { tmps := #[u0, u1, u2, u3, u4, u5, u6, .slice (some ⟨g, o, none⟩) L.length cp, set, u9, .int .i64 (k : Int), u11, u12, u13, u14, u15, u16, u17, u18, u19, u20, u21, u22, u23, u24, u25, u26, u27, u28, u29, u30, u31, u32, u33, u34, u35, u36, u37, u38, u39, u40, u41, u42, u43, u44, u45, u46, u47, u48, u49, u50, u51, u52, u53, u54, u55, u56, u57, u58, u59, u60, u61, u62, u63, u64, u65, u66, u67, u68, u69, u70, u71, u72, u73, u74, u75, u76, u77, u78, u79, u80, u81, u82, u83, u84, u85, u86, u87, u88, u89, u90, u91, u92, u93, u94], defers := [] } wr := by
  have hkl : k < L.length := by omega
  have HPA := Lib.hid hpan
  have HQ := Lib.hid h
  have HO := Lib.hid ho
  clear hpan h ho
  obtain ⟨x0, x1, x2, x3, x4, x5⟩ := cx
  obtain ⟨y0, y1, y2, y3, y4, y5⟩ := cy
  have HBW : Hid (Below wr.heap.size wr wr.drew) := (Below.refl _ _).drew
  refine wp_region_held_drew (S := fun w' => Below B wr w') (by kernel_rfl) (HBW.out.mono hB) (fun hHeld => ?_)
  refine wpAnyH_take (i := 0) (oi := { dst := some 65, op := Op.move (Operand.tmp 8), type := 22, pos := "ref.go:112", after := #[], guard := none }) (v := set) rfl (by kernel_rfl) (by kernel_rfl) (by kernel_rfl) (fun _ _ _ h => HPA.out _ _ _ _ _ h) (Or.inl ⟨by rfl, fun w' hS' => by go_simp⟩) (by assumption) ?_
  simp only [Act.put, List.setIfInBounds_toArray, List.set_cons_zero, List.set_cons_succ]
  refine wpAnyH_take (i := 1) (oi := { dst := some 66, op := Op.move (Operand.tmp 7), type := 50, pos := "ref.go:112", after := #[], guard := none }) (v := .slice (some ⟨g, o, none⟩) L.length cp) rfl (by kernel_rfl) (by kernel_rfl) (by kernel_rfl) (fun _ _ _ h => HPA.out _ _ _ _ _ h) (Or.inl ⟨by rfl, fun w' hS' => by go_simp⟩) (by assumption) ?_
  simp only [Act.put, List.setIfInBounds_toArray, List.set_cons_zero, List.set_cons_succ]
  refine wpAnyH_take (i := 2) (oi := { dst := some 67, op := Op.move (Operand.tmp 10), type := 3, pos := "ref.go:112", after := #[], guard := none }) (v := .int .i64 (k : Int)) rfl (by kernel_rfl) (by kernel_rfl) (by kernel_rfl) (fun _ _ _ h => HPA.out _ _ _ _ _ h) (Or.inl ⟨by rfl, fun w' hS' => by go_simp⟩) (by assumption) ?_
  simp only [Act.put, List.setIfInBounds_toArray, List.set_cons_zero, List.set_cons_succ]
  refine wpAnyH_take (i := 3) (oi := { dst := some 68, op := Op.indexAddr 50 (Operand.tmp 66) (Operand.tmp 67), type := 0, pos := "ref.go:112", after := #[{ on := 1, ground := Ground.data }, { on := 2, ground := Ground.data }], guard := none }) (v := .pointer (some ⟨g, o + k * 6, none⟩)) rfl (by kernel_rfl) (by kernel_rfl) (by kernel_rfl) (fun _ _ _ h => HPA.out _ _ _ _ _ h) (Or.inl ⟨by rfl, fun w' hS' => by go_simp⟩) (by assumption) ?_
  simp only [Act.put, List.setIfInBounds_toArray, List.set_cons_zero, List.set_cons_succ]
  refine wpAnyH_take (i := 4) (oi := { dst := some 69, op := Op.load 35 (Operand.tmp 68), type := 35, pos := "ref.go:112", after := #[{ on := 3, ground := Ground.data }], guard := none }) (v := .agg #[.int .i64 x.kind, .int .u64 (x.v.a : Int), .int .u64 (x.v.b : Int), .int .u64 (x.v.c : Int), .slice x.A x.v.pre.length x.c, .slice x.B x.v.build.length x.d]) rfl (by kernel_rfl) (by kernel_rfl) (by kernel_rfl) (fun _ _ _ h => HPA.out _ _ _ _ _ h) (Or.inl ⟨by rfl, fun w' hS' => by have q0 := (hS'.cell (p := ⟨g, o + k * 6, none⟩) hglB).trans x0; have q1 := (hS'.cell (p := ⟨g, o + k * 6 + 1, none⟩) hglB).trans x1; have q2 := (hS'.cell (p := ⟨g, o + k * 6 + 2, none⟩) hglB).trans x2; have q3 := (hS'.cell (p := ⟨g, o + k * 6 + 3, none⟩) hglB).trans x3; have q4 := (hS'.cell (p := ⟨g, o + k * 6 + 4, none⟩) hglB).trans x4; have q5 := (hS'.cell (p := ⟨g, o + k * 6 + 5, none⟩) hglB).trans x5; go_simp⟩) (by assumption) ?_
  simp only [Act.put, List.setIfInBounds_toArray, List.set_cons_zero, List.set_cons_succ]
  refine wpAnyH_take (i := 5) (oi := { dst := some 70, op := Op.move (Operand.tmp 7), type := 50, pos := "ref.go:112", after := #[], guard := none }) (v := .slice (some ⟨g, o, none⟩) L.length cp) rfl (by kernel_rfl) (by kernel_rfl) (by kernel_rfl) (fun _ _ _ h => HPA.out _ _ _ _ _ h) (Or.inl ⟨by rfl, fun w' hS' => by go_simp⟩) (by assumption) ?_
  simp only [Act.put, List.setIfInBounds_toArray, List.set_cons_zero, List.set_cons_succ]
  refine wpAnyH_take (i := 6) (oi := { dst := some 71, op := Op.move (Operand.tmp 10), type := 3, pos := "ref.go:112", after := #[], guard := none }) (v := .int .i64 (k : Int)) rfl (by kernel_rfl) (by kernel_rfl) (by kernel_rfl) (fun _ _ _ h => HPA.out _ _ _ _ _ h) (Or.inl ⟨by rfl, fun w' hS' => by go_simp⟩) (by assumption) ?_
  simp only [Act.put, List.setIfInBounds_toArray, List.set_cons_zero, List.set_cons_succ]
  refine wpAnyH_take (i := 7) (oi := { dst := some 72, op := Op.binOp BinOp.add 3 (Operand.tmp 71) (Operand.const (Value.int IntKind.i64 1)) 3, type := 3, pos := "ref.go:112", after := #[{ on := 6, ground := Ground.data }], guard := none }) (v := .int .i64 (k1 : Int)) rfl (by kernel_rfl) (by kernel_rfl) (by kernel_rfl) (fun _ _ _ h => HPA.out _ _ _ _ _ h) (Or.inl ⟨by rfl, fun w' hS' => by rw [← hk1]; go_simp; first | done | (rw [IntKind.wrap_i64]; omega)⟩) (by assumption) ?_
  simp only [Act.put, List.setIfInBounds_toArray, List.set_cons_zero, List.set_cons_succ]
  refine wpAnyH_take (i := 8) (oi := { dst := some 73, op := Op.indexAddr 50 (Operand.tmp 70) (Operand.tmp 72), type := 0, pos := "ref.go:112", after := #[{ on := 5, ground := Ground.data }, { on := 7, ground := Ground.data }], guard := none }) (v := .pointer (some ⟨g, o + k1 * 6, none⟩)) rfl (by kernel_rfl) (by kernel_rfl) (by kernel_rfl) (fun _ _ _ h => HPA.out _ _ _ _ _ h) (Or.inl ⟨by rfl, fun w' hS' => by go_simp⟩) (by assumption) ?_
  simp only [Act.put, List.setIfInBounds_toArray, List.set_cons_zero, List.set_cons_succ]
  refine wpAnyH_take (i := 9) (oi := { dst := some 74, op := Op.load 35 (Operand.tmp 73), type := 35, pos := "ref.go:112", after := #[{ on := 8, ground := Ground.data }], guard := none }) (v := .agg #[.int .i64 y.kind, .int .u64 (y.v.a : Int), .int .u64 (y.v.b : Int), .int .u64 (y.v.c : Int), .slice y.A y.v.pre.length y.c, .slice y.B y.v.build.length y.d]) rfl (by kernel_rfl) (by kernel_rfl) (by kernel_rfl) (fun _ _ _ h => HPA.out _ _ _ _ _ h) (Or.inl ⟨by rfl, fun w' hS' => by have q0 := (hS'.cell (p := ⟨g, o + k1 * 6, none⟩) hglB).trans y0; have q1 := (hS'.cell (p := ⟨g, o + k1 * 6 + 1, none⟩) hglB).trans y1; have q2 := (hS'.cell (p := ⟨g, o + k1 * 6 + 2, none⟩) hglB).trans y2; have q3 := (hS'.cell (p := ⟨g, o + k1 * 6 + 3, none⟩) hglB).trans y3; have q4 := (hS'.cell (p := ⟨g, o + k1 * 6 + 4, none⟩) hglB).trans y4; have q5 := (hS'.cell (p := ⟨g, o + k1 * 6 + 5, none⟩) hglB).trans y5; go_simp⟩) (by assumption) ?_
  simp only [Act.put, List.setIfInBounds_toArray, List.set_cons_zero, List.set_cons_succ]
  refine wpAnyH_take (i := 10) (oi := { dst := some 75, op := Op.build 37 #[(0, Operand.tmp 69), (1, Operand.tmp 74)], type := 37, pos := "ref.go:112", after := #[{ on := 4, ground := Ground.data }, { on := 9, ground := Ground.data }], guard := none }) (v := .agg #[.int .i64 x.kind, .int .u64 (x.v.a : Int), .int .u64 (x.v.b : Int), .int .u64 (x.v.c : Int), .slice x.A x.v.pre.length x.c, .slice x.B x.v.build.length x.d, .int .i64 y.kind, .int .u64 (y.v.a : Int), .int .u64 (y.v.b : Int), .int .u64 (y.v.c : Int), .slice y.A y.v.pre.length y.c, .slice y.B y.v.build.length y.d]) rfl (by kernel_rfl) (by kernel_rfl) (by kernel_rfl) (fun _ _ _ h => HPA.out _ _ _ _ _ h) (Or.inl ⟨by rfl, fun w' hS' => by go_simp⟩) (by assumption) ?_
  simp only [Act.put, List.setIfInBounds_toArray, List.set_cons_zero, List.set_cons_succ]
  have A7 : Hid (Below wr.heap.size wr (wr.drew.alloc (.cells #[.int .i64 x.kind, .int .u64 (x.v.a : Int), .int .u64 (x.v.b : Int), .int .u64 (x.v.c : Int), .slice x.A x.v.pre.length x.c, .slice x.B x.v.build.length x.d, .int .i64 y.kind, .int .u64 (y.v.a : Int), .int .u64 (y.v.b : Int), .int .u64 (y.v.c : Int), .slice y.A y.v.pre.length y.c, .slice y.B y.v.build.length y.d] 37))) := HBW.out.alloc HBW.out.size _
  refine wpAnyH_ready (rs := [11]) (by kernel_rfl) (by simp) ?_
  refine AllReadyH.cons (o := { dst := some 76, op := Op.buildSlice 22 1 #[(0, Operand.tmp 75)], type := 22, pos := "ref.go:112", after := #[{ on := 10, ground := Ground.data }], guard := none }) rfl (fun K hK => ?_) AllReadyH.nil
  go_simp
  refine hK.out _ _ (A7.out.mono hB) (fun hHeld => ?_)
  clear hK K
  try simp only [Act.put, List.setIfInBounds_toArray, List.set_cons_zero, List.set_cons_succ]
  obtain ⟨v8, w8, hrun, ho8, hg8⟩ := run_append_sp (wr.drew.alloc (.cells #[.int .i64 x.kind, .int .u64 (x.v.a : Int), .int .u64 (x.v.b : Int), .int .u64 (x.v.c : Int), .slice x.A x.v.pre.length x.c, .slice x.B x.v.build.length x.d, .int .i64 y.kind, .int .u64 (y.v.a : Int), .int .u64 (y.v.b : Int), .int .u64 (y.v.c : Int), .slice y.A y.v.pre.length y.c, .slice y.B y.v.build.length y.d] 37)) 22 B set out.length out (own_below (own_drew HO.out) ((Below.refl _ _).alloc (Nat.le_refl _) _)) ⟨wr.heap.size, 0, none⟩ 1 1 [⟨x, y⟩] rfl (news_new wr.drew _ _) (by omega) (Nat.le_trans hB A7.out.size)
  have B8 : Hid (Below B wr w8) := (A7.out.mono hB).grown hg8 (Nat.le_trans hB A7.out.size) (fun k hk => (HO.out.lt k hk).1)
  have O8 := Lib.hid ho8
  clear ho8 hg8 hHeld
  refine wpAnyH_ready (rs := [12]) (by kernel_rfl) (by simp) ?_
  refine AllReadyH.cons (o := { dst := some 77, op := Op.call { callee := Callee.builtin Builtin.append, args := #[Operand.tmp 65, Operand.tmp 76], argTypes := #[22, 22] }, type := 22, pos := "ref.go:112", after := #[{ on := 0, ground := Ground.data }, { on := 11, ground := Ground.data }], guard := none }) rfl (fun K hK => ?_) AllReadyH.nil
  refine region_append_sp (by rfl) _ _ rfl rfl rfl hrun ?_
  refine hK.out _ _ B8.out (fun hHeld => ?_)
  clear hK K hrun
  try simp only [Act.put, List.setIfInBounds_toArray, List.set_cons_zero, List.set_cons_succ]
  refine wpAnyH_take (i := 13) (oi := { dst := some 8, op := Op.assign (Operand.tmp 77), type := 22, pos := "ref.go:112", after := #[{ on := 12, ground := Ground.data }, { on := 12, ground := Ground.chain }, { on := 0, ground := Ground.phase }, { on := 1, ground := Ground.phase }, { on := 2, ground := Ground.phase }, { on := 3, ground := Ground.phase }, { on := 4, ground := Ground.phase }, { on := 5, ground := Ground.phase }, { on := 6, ground := Ground.phase }, { on := 7, ground := Ground.phase }, { on := 8, ground := Ground.phase }, { on := 9, ground := Ground.phase }, { on := 10, ground := Ground.phase }, { on := 11, ground := Ground.phase }, { on := 12, ground := Ground.phase }], guard := none }) (v := v8) rfl (by kernel_rfl) (by kernel_rfl) (by kernel_rfl) (fun _ _ _ h => HPA.out _ _ _ _ _ h) (Or.inl ⟨by rfl, fun w' hS' => by go_simp⟩) (by assumption) ?_
  simp only [Act.put, List.setIfInBounds_toArray, List.set_cons_zero, List.set_cons_succ]
  refine wpAnyH_done (by kernel_rfl) ?_ _
  exact HQ.out v8 w8 _ _ _ _ _ _ _ _ _ _ _ _ _ O8.out B8.out
end Go.Proofs.YtdbdeadcffpbfaaGreatDoor.Span

namespace Go.Proofs.YtdbdeadcffpbfaaGreatDoor.Span
open Go.RowKit Num Ident Semver Prec

set_option maxRecDepth 100000 in
set_option maxHeartbeats 6400000 in
theorem refSameS_any (A : Option Addr) (n ca : Nat) (l : List RSp) (B : Option Addr) (cb : Nat) (r : List RSp) (w : World) (hr : SpRow w A n l) (hr2 : SpRow w B n r) (hn : n ≤ 100000) (he : Zero l r n) :
    Calls Tryz.prog 8 #[.slice A n ca, .slice B n cb] w fun e w' => e = .returned (.bool true) ∧ Below w.heap.size w w' := by
  have HR := Lib.hid hr
  have HR2 := Lib.hid hr2
  have HE := Lib.hid he
  clear hr hr2 he
  go_enter Tryz.func8, Tryz.ntmps8
  go_wp2
  go_loopw [5] (fun i W => ∃ k : Nat, k ≤ n ∧ i = .int .i64 k ∧ Below w.heap.size w W) (fun i _ => n - (intOf i).toNat)
  case atStart => exact ⟨0, Nat.zero_le _, rfl, Below.refl _ _⟩
  case round =>
    obtain ⟨k, hk, rfl, hbel⟩ := hrel
    have HW := Lib.hid hbel
    clear hbel
    by_cases hlt : k < n
    · have R1 := Lib.hid (HR.out.kept HW.out)
      have R2 := Lib.hid (HR2.out.kept HW.out)
      obtain ⟨b, o, rfl, hb1, hc⟩ := R1.out.2.2 (by omega)
      obtain ⟨b2, o2, rfl, hb2, hc2⟩ := R2.out.2.2 (by omega)
      have C1 : Hid (SpAt wr b (o + k * 12) (l.getD k default)) := hc k hlt
      have D1 : Hid (SpAt wr b2 (o2 + k * 12) (r.getD k default)) := hc2 k hlt
      have LS := Lib.hid (R1.out.lies hlt)
      have LT := Lib.hid (R2.out.lies hlt)
      have HZ := Lib.hid (HE.out k hlt)
      clear hc hc2
      generalize l.getD k default = s at C1 LS HZ
      generalize r.getD k default = t at D1 LT HZ
      go_upto_region 6 with (fail)
      replace C1 : Hid (SpAt wr.drew b (o + k * 12) s) := C1.out
      replace D1 : Hid (SpAt wr.drew b2 (o2 + k * 12) t) := D1.out
      replace LS : Hid (LiesS wr.drew s) := LS.out.kept (Below.refl _ _).drew
      replace LT : Hid (LiesS wr.drew t) := LT.out.kept (Below.refl _ _).drew
      replace HW := Lib.hid HW.out.drew
      replace hb1 : b < wr.drew.heap.size := hb1
      replace hb2 : b2 < wr.drew.heap.size := hb2
      refine wp_region_held_drew (S := fun w' => SpAt w' b (o + k * 12) s ∧ SpAt w' b2 (o2 + k * 12) t) (by kernel_rfl) ⟨C1.out, D1.out⟩ (fun hHeld => ?_)
      refine wpAnyH_take (i := 0) (oi := { dst := some 17, op := Op.move (Operand.tmp 0), type := 22, pos := "ref.go:128", after := #[], guard := none }) (v := .slice (some ⟨b, o, none⟩) n ca) rfl (by kernel_rfl) (by kernel_rfl) (by kernel_rfl) (fun _ _ _ h => h) (Or.inl ⟨by rfl, fun w' hS' => by go_simp⟩) (by assumption) ?_
      simp only [Act.put, List.setIfInBounds_toArray, List.set_cons_zero, List.set_cons_succ]
      refine wpAnyH_take (i := 1) (oi := { dst := some 18, op := Op.move (Operand.tmp 5), type := 3, pos := "ref.go:128", after := #[], guard := none }) (v := .int .i64 (k : Int)) rfl (by kernel_rfl) (by kernel_rfl) (by kernel_rfl) (fun _ _ _ h => h) (Or.inl ⟨by rfl, fun w' hS' => by go_simp⟩) (by assumption) ?_
      simp only [Act.put, List.setIfInBounds_toArray, List.set_cons_zero, List.set_cons_succ]
      refine wpAnyH_take (i := 2) (oi := { dst := some 19, op := Op.indexAddr 22 (Operand.tmp 17) (Operand.tmp 18), type := 0, pos := "ref.go:128", after := #[{ on := 0, ground := Ground.data }, { on := 1, ground := Ground.data }], guard := none }) (v := .pointer (some ⟨b, o + k * 12, none⟩)) rfl (by kernel_rfl) (by kernel_rfl) (by kernel_rfl) (fun _ _ _ h => h) (Or.inl ⟨by rfl, fun w' hS' => by go_simp⟩) (by assumption) ?_
      simp only [Act.put, List.setIfInBounds_toArray, List.set_cons_zero, List.set_cons_succ]
      refine wpAnyH_take (i := 3) (oi := { dst := some 20, op := Op.fieldAddr 37 (Operand.tmp 19) 0, type := 0, pos := "ref.go:128", after := #[{ on := 2, ground := Ground.data }], guard := none }) (v := .pointer (some ⟨b, o + k * 12, none⟩)) rfl (by kernel_rfl) (by kernel_rfl) (by kernel_rfl) (fun _ _ _ h => h) (Or.inl ⟨by rfl, fun w' hS' => by go_simp⟩) (by assumption) ?_
      simp only [Act.put, List.setIfInBounds_toArray, List.set_cons_zero, List.set_cons_succ]
      refine wpAnyH_take (i := 4) (oi := { dst := some 21, op := Op.load 35 (Operand.tmp 20), type := 35, pos := "ref.go:128", after := #[{ on := 3, ground := Ground.data }], guard := none }) (v := .agg #[.int .i64 s.lo.kind, .int .u64 (s.lo.v.a : Int), .int .u64 (s.lo.v.b : Int), .int .u64 (s.lo.v.c : Int), .slice s.lo.A s.lo.v.pre.length s.lo.c, .slice s.lo.B s.lo.v.build.length s.lo.d]) rfl (by kernel_rfl) (by kernel_rfl) (by kernel_rfl) (fun _ _ _ h => h) (Or.inl ⟨by rfl, fun w' hS' => by obtain ⟨q0, q1, q2, q3, q4, q5, q6, q7, q8, q9, q10, q11⟩ := hS'.1.cells; go_simp⟩) (by assumption) ?_
      simp only [Act.put, List.setIfInBounds_toArray, List.set_cons_zero, List.set_cons_succ]
      refine wpAnyH_take (i := 5) (oi := { dst := some 22, op := Op.move (Operand.tmp 1), type := 22, pos := "ref.go:128", after := #[], guard := none }) (v := .slice (some ⟨b2, o2, none⟩) n cb) rfl (by kernel_rfl) (by kernel_rfl) (by kernel_rfl) (fun _ _ _ h => h) (Or.inl ⟨by rfl, fun w' hS' => by go_simp⟩) (by assumption) ?_
      simp only [Act.put, List.setIfInBounds_toArray, List.set_cons_zero, List.set_cons_succ]
      refine wpAnyH_take (i := 6) (oi := { dst := some 23, op := Op.move (Operand.tmp 5), type := 3, pos := "ref.go:128", after := #[], guard := none }) (v := .int .i64 (k : Int)) rfl (by kernel_rfl) (by kernel_rfl) (by kernel_rfl) (fun _ _ _ h => h) (Or.inl ⟨by rfl, fun w' hS' => by go_simp⟩) (by assumption) ?_
      simp only [Act.put, List.setIfInBounds_toArray, List.set_cons_zero, List.set_cons_succ]
      refine wpAnyH_take (i := 7) (oi := { dst := some 24, op := Op.indexAddr 22 (Operand.tmp 22) (Operand.tmp 23), type := 0, pos := "ref.go:128", after := #[{ on := 5, ground := Ground.data }, { on := 6, ground := Ground.data }], guard := none }) (v := .pointer (some ⟨b2, o2 + k * 12, none⟩)) rfl (by kernel_rfl) (by kernel_rfl) (by kernel_rfl) (fun _ _ _ h => h) (Or.inl ⟨by rfl, fun w' hS' => by go_simp⟩) (by assumption) ?_
      simp only [Act.put, List.setIfInBounds_toArray, List.set_cons_zero, List.set_cons_succ]
      refine wpAnyH_take (i := 8) (oi := { dst := some 25, op := Op.fieldAddr 37 (Operand.tmp 24) 0, type := 0, pos := "ref.go:128", after := #[{ on := 7, ground := Ground.data }], guard := none }) (v := .pointer (some ⟨b2, o2 + k * 12, none⟩)) rfl (by kernel_rfl) (by kernel_rfl) (by kernel_rfl) (fun _ _ _ h => h) (Or.inl ⟨by rfl, fun w' hS' => by go_simp⟩) (by assumption) ?_
      simp only [Act.put, List.setIfInBounds_toArray, List.set_cons_zero, List.set_cons_succ]
      refine wpAnyH_take (i := 9) (oi := { dst := some 26, op := Op.load 35 (Operand.tmp 25), type := 35, pos := "ref.go:128", after := #[{ on := 8, ground := Ground.data }], guard := none }) (v := .agg #[.int .i64 t.lo.kind, .int .u64 (t.lo.v.a : Int), .int .u64 (t.lo.v.b : Int), .int .u64 (t.lo.v.c : Int), .slice t.lo.A t.lo.v.pre.length t.lo.c, .slice t.lo.B t.lo.v.build.length t.lo.d]) rfl (by kernel_rfl) (by kernel_rfl) (by kernel_rfl) (fun _ _ _ h => h) (Or.inl ⟨by rfl, fun w' hS' => by obtain ⟨q0, q1, q2, q3, q4, q5, q6, q7, q8, q9, q10, q11⟩ := hS'.2.cells; go_simp⟩) (by assumption) ?_
      simp only [Act.put, List.setIfInBounds_toArray, List.set_cons_zero, List.set_cons_succ]
      refine wpAnyH_ready (rs := [10]) (by kernel_rfl) (by simp) ?_
      refine AllReadyH.cons (o := { dst := some 27, op := Op.call { callee := Callee.value (Operand.func 19), args := #[Operand.tmp 21, Operand.tmp 26], argTypes := #[35, 35] }, type := 3, pos := "ref.go:128", after := #[{ on := 4, ground := Ground.data }, { on := 9, ground := Ground.data }], guard := none }) rfl (fun K hK => ?_) AllReadyH.nil
      go_simp
      refine (refCompareC_any s.lo t.lo _ LS.out.lo LT.out.lo).mono ?_
      rintro e wq1 ⟨he, hb⟩
      rw [HZ.out.1] at he
      subst he
      replace C1 := Lib.hid (C1.out.kept hb hb1)
      replace D1 := Lib.hid (D1.out.kept hb hb2)
      replace LS := Lib.hid (LS.out.kept hb)
      replace LT := Lib.hid (LT.out.kept hb)
      replace HW := Lib.hid (HW.out.trans (hb.mono HW.out.size))
      replace hb1 := Nat.lt_of_lt_of_le hb1 hb.size
      replace hb2 := Nat.lt_of_lt_of_le hb2 hb.size
      clear hb hHeld
      refine hK.out _ _ ⟨C1.out, D1.out⟩ (fun hHeld => ?_)
      clear hK K
      try simp only [Act.put, List.setIfInBounds_toArray, List.set_cons_zero, List.set_cons_succ]
      refine wpAnyH_take (i := 11) (oi := { dst := some 28, op := Op.binOp BinOp.neq 3 (Operand.tmp 27) (Operand.const (Value.int IntKind.i64 0)) 3, type := 4, pos := "ref.go:128", after := #[{ on := 10, ground := Ground.data }], guard := none }) (v := .bool false) rfl (by kernel_rfl) (by kernel_rfl) (by kernel_rfl) (fun _ _ _ h => h) (Or.inl ⟨by rfl, fun w' hS' => by go_simp⟩) (by assumption) ?_
      simp only [Act.put, List.setIfInBounds_toArray, List.set_cons_zero, List.set_cons_succ]
      refine wpAnyH_take (i := 12) (oi := { dst := some 29, op := Op.move (Operand.tmp 28), type := 4, pos := "ref.go:128", after := #[{ on := 11, ground := Ground.data }, { on := 10, ground := Ground.chain }], guard := none }) (v := .bool false) rfl (by kernel_rfl) (by kernel_rfl) (by kernel_rfl) (fun _ _ _ h => h) (Or.inl ⟨by rfl, fun w' hS' => by go_simp⟩) (by assumption) ?_
      simp only [Act.put, List.setIfInBounds_toArray, List.set_cons_zero, List.set_cons_succ]
      refine wpAnyH_take (i := 13) (oi := { dst := some 30, op := Op.move (Operand.tmp 0), type := 22, pos := "ref.go:128", after := #[{ on := 12, ground := Ground.guard }], guard := some (12, false) }) (v := .slice (some ⟨b, o, none⟩) n ca) rfl (by kernel_rfl) (by kernel_rfl) (by kernel_rfl) (fun _ _ _ h => h) (Or.inl ⟨by rfl, fun w' hS' => by go_simp⟩) (by assumption) ?_
      simp only [Act.put, List.setIfInBounds_toArray, List.set_cons_zero, List.set_cons_succ]
      refine wpAnyH_take (i := 14) (oi := { dst := some 31, op := Op.move (Operand.tmp 5), type := 3, pos := "ref.go:128", after := #[{ on := 12, ground := Ground.guard }], guard := some (12, false) }) (v := .int .i64 (k : Int)) rfl (by kernel_rfl) (by kernel_rfl) (by kernel_rfl) (fun _ _ _ h => h) (Or.inl ⟨by rfl, fun w' hS' => by go_simp⟩) (by assumption) ?_
      simp only [Act.put, List.setIfInBounds_toArray, List.set_cons_zero, List.set_cons_succ]
      refine wpAnyH_take (i := 15) (oi := { dst := some 32, op := Op.indexAddr 22 (Operand.tmp 30) (Operand.tmp 31), type := 0, pos := "ref.go:128", after := #[{ on := 13, ground := Ground.data }, { on := 14, ground := Ground.data }, { on := 12, ground := Ground.guard }], guard := some (12, false) }) (v := .pointer (some ⟨b, o + k * 12, none⟩)) rfl (by kernel_rfl) (by kernel_rfl) (by kernel_rfl) (fun _ _ _ h => h) (Or.inl ⟨by rfl, fun w' hS' => by go_simp⟩) (by assumption) ?_
      simp only [Act.put, List.setIfInBounds_toArray, List.set_cons_zero, List.set_cons_succ]
      refine wpAnyH_take (i := 16) (oi := { dst := some 33, op := Op.fieldAddr 37 (Operand.tmp 32) 1, type := 0, pos := "ref.go:128", after := #[{ on := 15, ground := Ground.data }, { on := 12, ground := Ground.guard }], guard := some (12, false) }) (v := .pointer (some ⟨b, o + k * 12 + 6, none⟩)) rfl (by kernel_rfl) (by kernel_rfl) (by kernel_rfl) (fun _ _ _ h => h) (Or.inl ⟨by rfl, fun w' hS' => by go_simp⟩) (by assumption) ?_
      simp only [Act.put, List.setIfInBounds_toArray, List.set_cons_zero, List.set_cons_succ]
      refine wpAnyH_take (i := 17) (oi := { dst := some 34, op := Op.load 35 (Operand.tmp 33), type := 35, pos := "ref.go:128", after := #[{ on := 16, ground := Ground.data }, { on := 12, ground := Ground.guard }], guard := some (12, false) }) (v := .agg #[.int .i64 s.hi.kind, .int .u64 (s.hi.v.a : Int), .int .u64 (s.hi.v.b : Int), .int .u64 (s.hi.v.c : Int), .slice s.hi.A s.hi.v.pre.length s.hi.c, .slice s.hi.B s.hi.v.build.length s.hi.d]) rfl (by kernel_rfl) (by kernel_rfl) (by kernel_rfl) (fun _ _ _ h => h) (Or.inl ⟨by rfl, fun w' hS' => by obtain ⟨q0, q1, q2, q3, q4, q5, q6, q7, q8, q9, q10, q11⟩ := hS'.1.cells; go_simp⟩) (by assumption) ?_
      simp only [Act.put, List.setIfInBounds_toArray, List.set_cons_zero, List.set_cons_succ]
      refine wpAnyH_take (i := 18) (oi := { dst := some 35, op := Op.move (Operand.tmp 1), type := 22, pos := "ref.go:128", after := #[{ on := 12, ground := Ground.guard }], guard := some (12, false) }) (v := .slice (some ⟨b2, o2, none⟩) n cb) rfl (by kernel_rfl) (by kernel_rfl) (by kernel_rfl) (fun _ _ _ h => h) (Or.inl ⟨by rfl, fun w' hS' => by go_simp⟩) (by assumption) ?_
      simp only [Act.put, List.setIfInBounds_toArray, List.set_cons_zero, List.set_cons_succ]
      refine wpAnyH_take (i := 19) (oi := { dst := some 36, op := Op.move (Operand.tmp 5), type := 3, pos := "ref.go:128", after := #[{ on := 12, ground := Ground.guard }], guard := some (12, false) }) (v := .int .i64 (k : Int)) rfl (by kernel_rfl) (by kernel_rfl) (by kernel_rfl) (fun _ _ _ h => h) (Or.inl ⟨by rfl, fun w' hS' => by go_simp⟩) (by assumption) ?_
      simp only [Act.put, List.setIfInBounds_toArray, List.set_cons_zero, List.set_cons_succ]
      refine wpAnyH_take (i := 20) (oi := { dst := some 37, op := Op.indexAddr 22 (Operand.tmp 35) (Operand.tmp 36), type := 0, pos := "ref.go:128", after := #[{ on := 18, ground := Ground.data }, { on := 19, ground := Ground.data }, { on := 12, ground := Ground.guard }], guard := some (12, false) }) (v := .pointer (some ⟨b2, o2 + k * 12, none⟩)) rfl (by kernel_rfl) (by kernel_rfl) (by kernel_rfl) (fun _ _ _ h => h) (Or.inl ⟨by rfl, fun w' hS' => by go_simp⟩) (by assumption) ?_
      simp only [Act.put, List.setIfInBounds_toArray, List.set_cons_zero, List.set_cons_succ]
      refine wpAnyH_take (i := 21) (oi := { dst := some 38, op := Op.fieldAddr 37 (Operand.tmp 37) 1, type := 0, pos := "ref.go:128", after := #[{ on := 20, ground := Ground.data }, { on := 12, ground := Ground.guard }], guard := some (12, false) }) (v := .pointer (some ⟨b2, o2 + k * 12 + 6, none⟩)) rfl (by kernel_rfl) (by kernel_rfl) (by kernel_rfl) (fun _ _ _ h => h) (Or.inl ⟨by rfl, fun w' hS' => by go_simp⟩) (by assumption) ?_
      simp only [Act.put, List.setIfInBounds_toArray, List.set_cons_zero, List.set_cons_succ]
      refine wpAnyH_take (i := 22) (oi := { dst := some 39, op := Op.load 35 (Operand.tmp 38), type := 35, pos := "ref.go:128", after := #[{ on := 21, ground := Ground.data }, { on := 12, ground := Ground.guard }], guard := some (12, false) }) (v := .agg #[.int .i64 t.hi.kind, .int .u64 (t.hi.v.a : Int), .int .u64 (t.hi.v.b : Int), .int .u64 (t.hi.v.c : Int), .slice t.hi.A t.hi.v.pre.length t.hi.c, .slice t.hi.B t.hi.v.build.length t.hi.d]) rfl (by kernel_rfl) (by kernel_rfl) (by kernel_rfl) (fun _ _ _ h => h) (Or.inl ⟨by rfl, fun w' hS' => by obtain ⟨q0, q1, q2, q3, q4, q5, q6, q7, q8, q9, q10, q11⟩ := hS'.2.cells; go_simp⟩) (by assumption) ?_
      simp only [Act.put, List.setIfInBounds_toArray, List.set_cons_zero, List.set_cons_succ]
      refine wpAnyH_ready (rs := [23]) (by kernel_rfl) (by simp) ?_
      refine AllReadyH.cons (o := { dst := some 40, op := Op.call { callee := Callee.value (Operand.func 19), args := #[Operand.tmp 34, Operand.tmp 39], argTypes := #[35, 35] }, type := 3, pos := "ref.go:128", after := #[{ on := 17, ground := Ground.data }, { on := 22, ground := Ground.data }, { on := 12, ground := Ground.chain }, { on := 12, ground := Ground.guard }], guard := some (12, false) }) rfl (fun K hK => ?_) AllReadyH.nil
      go_simp
      refine (refCompareC_any s.hi t.hi _ LS.out.hi LT.out.hi).mono ?_
      rintro e wq2 ⟨he, hb⟩
      rw [HZ.out.2] at he
      subst he
      replace C1 := Lib.hid (C1.out.kept hb hb1)
      replace D1 := Lib.hid (D1.out.kept hb hb2)
      replace LS := Lib.hid (LS.out.kept hb)
      replace LT := Lib.hid (LT.out.kept hb)
      replace HW := Lib.hid (HW.out.trans (hb.mono HW.out.size))
      replace hb1 := Nat.lt_of_lt_of_le hb1 hb.size
      replace hb2 := Nat.lt_of_lt_of_le hb2 hb.size
      clear hb hHeld
      refine hK.out _ _ ⟨C1.out, D1.out⟩ (fun hHeld => ?_)
      clear hK K
      try simp only [Act.put, List.setIfInBounds_toArray, List.set_cons_zero, List.set_cons_succ]
      refine wpAnyH_take (i := 24) (oi := { dst := some 41, op := Op.binOp BinOp.neq 3 (Operand.tmp 40) (Operand.const (Value.int IntKind.i64 0)) 3, type := 4, pos := "ref.go:128", after := #[{ on := 23, ground := Ground.data }, { on := 12, ground := Ground.guard }], guard := some (12, false) }) (v := .bool false) rfl (by kernel_rfl) (by kernel_rfl) (by kernel_rfl) (fun _ _ _ h => h) (Or.inl ⟨by rfl, fun w' hS' => by go_simp⟩) (by assumption) ?_
      simp only [Act.put, List.setIfInBounds_toArray, List.set_cons_zero, List.set_cons_succ]
      refine wpAnyH_take (i := 25) (oi := { dst := some 42, op := Op.pick (Operand.tmp 29) (Operand.const (Value.bool true)) (Operand.tmp 41), type := 4, pos := "ref.go:128", after := #[{ on := 12, ground := Ground.data }, { on := 24, ground := Ground.data }], guard := none }) (v := .bool false) rfl (by kernel_rfl) (by kernel_rfl) (by kernel_rfl) (fun _ _ _ h => h) (Or.inl ⟨by rfl, fun w' hS' => by go_simp⟩) (by assumption) ?_
      simp only [Act.put, List.setIfInBounds_toArray, List.set_cons_zero, List.set_cons_succ]
      refine wpAnyH_done (by kernel_rfl) ?_ _
      go_wp2
      exact ⟨⟨k + 1, by omega, by go_num, HW.out⟩, by simp [intOf]; omega⟩
    · go_wp2
      go_ret
      exact ⟨rfl, HW.out⟩
end Go.Proofs.YtdbdeadcffpbfaaGreatDoor.Span

namespace Go.Proofs.YtdbdeadcffpbfaaGreatDoor.Span
open Go.RowKit Num Ident Semver Prec

def BuildJ (w wc : World) (l r : List RSp) (how : Int) (L : List RCut) (v op i : Value) (W : World) : Prop :=
  ∃ (k : Nat) (out : List RSp) (ob : Bool), k + 1 ≤ L.length ∧ i = .int .i64 k ∧ op = .bool ob ∧ W.ownsRow wc.heap.size 37 12 v out.length (out.flatMap RSp.vals) ∧ (∀ s ∈ out, LiesS w s) ∧ BInv (L.map RCut.cut) (pieceB (l.map RSp.sp) (r.map RSp.sp) how (L.map RCut.cut)) k ob (out.map RSp.sp) ∧ Below wc.heap.size wc W
/-- What Build leaves. -/
def BuildPost (w : World) (l r : List RSp) (how : Int) (e : Ending) (w' : World) : Prop :=
  ∃ (P : Option Addr) (m c : Nat) (out : List RSp), e = .returned (.slice P m c) ∧ SpRow w' P m out ∧ m ≤ 100000 ∧ BuiltOf (l.map RSp.sp) (r.map RSp.sp) how (out.map RSp.sp) ∧ Below w.heap.size w w'
set_option maxRecDepth 100000 in
set_option maxHeartbeats 25600000 in
theorem build_any (A : Option Addr) (n c0 : Nat) (l : List RSp) (Bb : Option Addr) (p d0 : Nat) (r : List RSp) (how : Int) (w : World) (ha : SpSrc w A n c0 l) (hb : SpSrc w Bb p d0 r) (hn : n ≤ 1000) (hp : p ≤ 1000) (hhow : how = 0 ∨ how = 1 ∨ how = 2) :
    Calls Tryz.prog 10 #[.slice A n c0, .slice Bb p d0, .int .i64 how] w (BuildPost w l r how) := by
  have HRA := Lib.hid ha.row
  have HRB := Lib.hid hb.row
  have HS1 := Lib.hid ha
  have HS2 := Lib.hid hb
  have hla : l.length = n := ha.row.1
  have hlb : r.length = p := hb.row.1
  clear ha hb
  go_enter Tryz.func10, Tryz.ntmps10
  go_wp2_with fail
  refine (cuts_any A n c0 l Bb p d0 r _ HS1.out HS2.out hn hp).mono ?_
  rintro e wc ⟨g, o, cp, L, rfl, hsrc, hlies, hrise, hh1, hh2, hlen, hb0⟩
  have HL := Lib.hid hrise
  have HSRC := Lib.hid hsrc
  have HLI := Lib.hid hlies
  have HH1 := Lib.hid hh1
  have HH2 := Lib.hid hh2
  have HB0 := Lib.hid hb0
  have hgw : g < wc.heap.size := hsrc.1
  have hL2 : 1 ≤ L.length := by have := List.length_pos_of_mem hrise.low; rw [List.length_map] at this; exact this
  have hL3 : L.length ≤ 5000 := by omega
  clear hsrc hlies hrise hh1 hh2 hb0 HS1 HS2 hlen
  go_wp2
  go_loopw [8, 9, 10] (fun v op i W => BuildJ w wc l r how L v op i W) (fun _ _ i _ => L.length - (intOf i).toNat)
  case atStart => exact ⟨0, [], false, by omega, rfl, rfl, World.ownsRow_nil _ _ _ _, (fun s hs => by cases hs), BInv.start _ _, Below.refl _ _⟩
  case round =>
    obtain ⟨k, out, ob, hk, rfl, rfl, hown, hlo, hinv, hbel⟩ := hrel
    have HO := Lib.hid hown
    have HLO := Lib.hid hlo
    have HI := Lib.hid hinv
    have HBel := Lib.hid hbel
    have hol : out.length ≤ k := by have := hinv.len; rw [List.length_map] at this; exact this
    clear hown hlo hinv hbel
    by_cases hlt : k + 1 < L.length
    · obtain ⟨k1, hk1n⟩ : ∃ k1, k + 1 = k1 := ⟨_, rfl⟩
      have hk1 : (k : Int) + 1 = (k1 : Int) := by omega
      have hkl : k < L.length := by omega
      have hkl1 : k1 < L.length := by omega
      have HSR := Lib.hid (HSRC.out.kept HBel.out)
      have hgl : g < wr.heap.size := HSR.out.1
      have CX := Lib.hid (HSR.out.at (m := k) (by omega))
      have CY := Lib.hid (HSR.out.at (m := k1) (by omega))
      have LX0 : Hid (Lies w (L.getD k default)) := HLI.out _ (getC_mem (by omega))
      have LY0 : Hid (Lies w (L.getD k1 default)) := HLI.out _ (getC_mem (by omega))
      have EX : Hid (cutAt (L.map RCut.cut) k = (L.getD k default).cut) := cut_at_map L k
      have EY : Hid (cutAt (L.map RCut.cut) (k + 1) = (L.getD k1 default).cut) := by unfold Hid; rw [hk1n]; exact cut_at_map L k1
      generalize L.getD k default = x at CX LX0 EX
      generalize L.getD k1 default = y at CY LY0 EY
      obtain ⟨x0, x1, x2, x3, x4, x5⟩ := CX.out
      obtain ⟨y0, y1, y2, y3, y4, y5⟩ := CY.out
      have BW := Lib.hid (HB0.out.trans (HBel.out.mono HB0.out.size))
      have LX := Lib.hid (LX0.out.kept BW.out)
      have LY := Lib.hid (LY0.out.kept BW.out)
      have HBW : Hid (Below wr.heap.size wr wr) := Below.refl _ _
      have HX : Hid (coversB (l.map RSp.sp) (cutAt (L.map RCut.cut) k) (cutAt (L.map RCut.cut) (k + 1)) = coversB (l.map RSp.sp) x.cut y.cut) := by unfold Hid; rw [EX.out, EY.out]
      have HY : Hid (coversB (r.map RSp.sp) (cutAt (L.map RCut.cut) k) (cutAt (L.map RCut.cut) (k + 1)) = coversB (r.map RSp.sp) x.cut y.cut) := by unfold Hid; rw [EX.out, EY.out]
      go_upto_region 7 with (fail)
      replace HBW := Lib.hid HBW.out.drew
      refine wp_region_held_drew (S := fun w' => Below wr.heap.size wr w') (by kernel_rfl) HBW.out (fun hHeld => ?_)
      refine wpAnyH_take (i := 0) (oi := { dst := some 24, op := Op.move (Operand.tmp 0), type := 22, pos := "ref.go:102", after := #[], guard := none }) (v := .slice A n c0) rfl (by kernel_rfl) (by kernel_rfl) (by kernel_rfl) (fun _ _ _ h => h) (Or.inl ⟨by rfl, fun w' hS' => by go_simp⟩) (by assumption) ?_
      simp only [Act.put, List.setIfInBounds_toArray, List.set_cons_zero, List.set_cons_succ]
      refine wpAnyH_take (i := 1) (oi := { dst := some 25, op := Op.move (Operand.tmp 7), type := 50, pos := "ref.go:102", after := #[], guard := none }) (v := .slice (some ⟨g, o, none⟩) L.length cp) rfl (by kernel_rfl) (by kernel_rfl) (by kernel_rfl) (fun _ _ _ h => h) (Or.inl ⟨by rfl, fun w' hS' => by go_simp⟩) (by assumption) ?_
      simp only [Act.put, List.setIfInBounds_toArray, List.set_cons_zero, List.set_cons_succ]
      refine wpAnyH_take (i := 2) (oi := { dst := some 26, op := Op.move (Operand.tmp 10), type := 3, pos := "ref.go:102", after := #[], guard := none }) (v := .int .i64 (k : Int)) rfl (by kernel_rfl) (by kernel_rfl) (by kernel_rfl) (fun _ _ _ h => h) (Or.inl ⟨by rfl, fun w' hS' => by go_simp⟩) (by assumption) ?_
      simp only [Act.put, List.setIfInBounds_toArray, List.set_cons_zero, List.set_cons_succ]
      refine wpAnyH_take (i := 3) (oi := { dst := some 27, op := Op.indexAddr 50 (Operand.tmp 25) (Operand.tmp 26), type := 0, pos := "ref.go:102", after := #[{ on := 1, ground := Ground.data }, { on := 2, ground := Ground.data }], guard := none }) (v := .pointer (some ⟨g, o + k * 6, none⟩)) rfl (by kernel_rfl) (by kernel_rfl) (by kernel_rfl) (fun _ _ _ h => h) (Or.inl ⟨by rfl, fun w' hS' => by go_simp⟩) (by assumption) ?_
      simp only [Act.put, List.setIfInBounds_toArray, List.set_cons_zero, List.set_cons_succ]
      refine wpAnyH_take (i := 4) (oi := { dst := some 28, op := Op.load 35 (Operand.tmp 27), type := 35, pos := "ref.go:102", after := #[{ on := 3, ground := Ground.data }], guard := none }) (v := .agg #[.int .i64 x.kind, .int .u64 (x.v.a : Int), .int .u64 (x.v.b : Int), .int .u64 (x.v.c : Int), .slice x.A x.v.pre.length x.c, .slice x.B x.v.build.length x.d]) rfl (by kernel_rfl) (by kernel_rfl) (by kernel_rfl) (fun _ _ _ h => h) (Or.inl ⟨by rfl, fun w' hS' => by have q0 := (hS'.cell (p := ⟨g, o + k * 6, none⟩) hgl).trans x0; have q1 := (hS'.cell (p := ⟨g, o + k * 6 + 1, none⟩) hgl).trans x1; have q2 := (hS'.cell (p := ⟨g, o + k * 6 + 2, none⟩) hgl).trans x2; have q3 := (hS'.cell (p := ⟨g, o + k * 6 + 3, none⟩) hgl).trans x3; have q4 := (hS'.cell (p := ⟨g, o + k * 6 + 4, none⟩) hgl).trans x4; have q5 := (hS'.cell (p := ⟨g, o + k * 6 + 5, none⟩) hgl).trans x5; go_simp⟩) (by assumption) ?_
      simp only [Act.put, List.setIfInBounds_toArray, List.set_cons_zero, List.set_cons_succ]
      refine wpAnyH_take (i := 5) (oi := { dst := some 29, op := Op.move (Operand.tmp 7), type := 50, pos := "ref.go:102", after := #[], guard := none }) (v := .slice (some ⟨g, o, none⟩) L.length cp) rfl (by kernel_rfl) (by kernel_rfl) (by kernel_rfl) (fun _ _ _ h => h) (Or.inl ⟨by rfl, fun w' hS' => by go_simp⟩) (by assumption) ?_
      simp only [Act.put, List.setIfInBounds_toArray, List.set_cons_zero, List.set_cons_succ]
      refine wpAnyH_take (i := 6) (oi := { dst := some 30, op := Op.move (Operand.tmp 10), type := 3, pos := "ref.go:102", after := #[], guard := none }) (v := .int .i64 (k : Int)) rfl (by kernel_rfl) (by kernel_rfl) (by kernel_rfl) (fun _ _ _ h => h) (Or.inl ⟨by rfl, fun w' hS' => by go_simp⟩) (by assumption) ?_
      simp only [Act.put, List.setIfInBounds_toArray, List.set_cons_zero, List.set_cons_succ]
      refine wpAnyH_take (i := 7) (oi := { dst := some 31, op := Op.binOp BinOp.add 3 (Operand.tmp 30) (Operand.const (Value.int IntKind.i64 1)) 3, type := 3, pos := "ref.go:102", after := #[{ on := 6, ground := Ground.data }], guard := none }) (v := .int .i64 (k1 : Int)) rfl (by kernel_rfl) (by kernel_rfl) (by kernel_rfl) (fun _ _ _ h => h) (Or.inl ⟨by rfl, fun w' hS' => by rw [← hk1]; go_simp; first | done | (rw [IntKind.wrap_i64]; omega)⟩) (by assumption) ?_
      simp only [Act.put, List.setIfInBounds_toArray, List.set_cons_zero, List.set_cons_succ]
      refine wpAnyH_take (i := 8) (oi := { dst := some 32, op := Op.indexAddr 50 (Operand.tmp 29) (Operand.tmp 31), type := 0, pos := "ref.go:102", after := #[{ on := 5, ground := Ground.data }, { on := 7, ground := Ground.data }], guard := none }) (v := .pointer (some ⟨g, o + k1 * 6, none⟩)) rfl (by kernel_rfl) (by kernel_rfl) (by kernel_rfl) (fun _ _ _ h => h) (Or.inl ⟨by rfl, fun w' hS' => by go_simp⟩) (by assumption) ?_
      simp only [Act.put, List.setIfInBounds_toArray, List.set_cons_zero, List.set_cons_succ]
      refine wpAnyH_take (i := 9) (oi := { dst := some 33, op := Op.load 35 (Operand.tmp 32), type := 35, pos := "ref.go:102", after := #[{ on := 8, ground := Ground.data }], guard := none }) (v := .agg #[.int .i64 y.kind, .int .u64 (y.v.a : Int), .int .u64 (y.v.b : Int), .int .u64 (y.v.c : Int), .slice y.A y.v.pre.length y.c, .slice y.B y.v.build.length y.d]) rfl (by kernel_rfl) (by kernel_rfl) (by kernel_rfl) (fun _ _ _ h => h) (Or.inl ⟨by rfl, fun w' hS' => by have q0 := (hS'.cell (p := ⟨g, o + k1 * 6, none⟩) hgl).trans y0; have q1 := (hS'.cell (p := ⟨g, o + k1 * 6 + 1, none⟩) hgl).trans y1; have q2 := (hS'.cell (p := ⟨g, o + k1 * 6 + 2, none⟩) hgl).trans y2; have q3 := (hS'.cell (p := ⟨g, o + k1 * 6 + 3, none⟩) hgl).trans y3; have q4 := (hS'.cell (p := ⟨g, o + k1 * 6 + 4, none⟩) hgl).trans y4; have q5 := (hS'.cell (p := ⟨g, o + k1 * 6 + 5, none⟩) hgl).trans y5; go_simp⟩) (by assumption) ?_
      simp only [Act.put, List.setIfInBounds_toArray, List.set_cons_zero, List.set_cons_succ]
      refine wpAnyH_ready (rs := [10]) (by kernel_rfl) (by simp) ?_
      refine AllReadyH.cons (o := { dst := some 34, op := Op.call { callee := Callee.value (Operand.func 24), args := #[Operand.tmp 24, Operand.tmp 28, Operand.tmp 33], argTypes := #[22, 35, 35] }, type := 4, pos := "ref.go:102", after := #[{ on := 0, ground := Ground.data }, { on := 4, ground := Ground.data }, { on := 9, ground := Ground.data }], guard := none }) rfl (fun K hK => ?_) AllReadyH.nil
      go_simp
      refine (covers_any _ _ _ l x y _ (HRA.out.kept (BW.out.trans (HBW.out.mono BW.out.size))) (by omega) (LX.out.kept HBW.out) (LY.out.kept HBW.out)).mono ?_
      rintro e wu1 ⟨rfl, hb⟩
      generalize coversB (l.map RSp.sp) x.cut y.cut = gx at HX ⊢
      replace HBW := Lib.hid (HBW.out.trans (hb.mono HBW.out.size))
      clear hb hHeld
      refine hK.out _ _ HBW.out (fun hHeld => ?_)
      clear hK K
      try simp only [Act.put, List.setIfInBounds_toArray, List.set_cons_zero, List.set_cons_succ]
      refine wpAnyH_take (i := 11) (oi := { dst := some 11, op := Op.assign (Operand.tmp 34), type := 4, pos := "ref.go:102", after := #[{ on := 10, ground := Ground.data }, { on := 10, ground := Ground.chain }, { on := 0, ground := Ground.phase }, { on := 1, ground := Ground.phase }, { on := 2, ground := Ground.phase }, { on := 3, ground := Ground.phase }, { on := 4, ground := Ground.phase }, { on := 5, ground := Ground.phase }, { on := 6, ground := Ground.phase }, { on := 7, ground := Ground.phase }, { on := 8, ground := Ground.phase }, { on := 9, ground := Ground.phase }, { on := 10, ground := Ground.phase }], guard := none }) (v := .bool gx) rfl (by kernel_rfl) (by kernel_rfl) (by kernel_rfl) (fun _ _ _ h => h) (Or.inl ⟨by rfl, fun w' hS' => by go_simp⟩) (by assumption) ?_
      simp only [Act.put, List.setIfInBounds_toArray, List.set_cons_zero, List.set_cons_succ]
      refine wpAnyH_done (by kernel_rfl) ?_ _
      go_upto_region 8 with (fail)
      replace HBW := Lib.hid HBW.out.drew
      refine wp_region_held_drew (S := fun w' => Below wr.heap.size wr w') (by kernel_rfl) HBW.out (fun hHeld => ?_)
      refine wpAnyH_take (i := 0) (oi := { dst := some 35, op := Op.move (Operand.tmp 1), type := 22, pos := "ref.go:103", after := #[], guard := none }) (v := .slice Bb p d0) rfl (by kernel_rfl) (by kernel_rfl) (by kernel_rfl) (fun _ _ _ h => h) (Or.inl ⟨by rfl, fun w' hS' => by go_simp⟩) (by assumption) ?_
      simp only [Act.put, List.setIfInBounds_toArray, List.set_cons_zero, List.set_cons_succ]
      refine wpAnyH_take (i := 1) (oi := { dst := some 36, op := Op.move (Operand.tmp 7), type := 50, pos := "ref.go:103", after := #[], guard := none }) (v := .slice (some ⟨g, o, none⟩) L.length cp) rfl (by kernel_rfl) (by kernel_rfl) (by kernel_rfl) (fun _ _ _ h => h) (Or.inl ⟨by rfl, fun w' hS' => by go_simp⟩) (by assumption) ?_
      simp only [Act.put, List.setIfInBounds_toArray, List.set_cons_zero, List.set_cons_succ]
      refine wpAnyH_take (i := 2) (oi := { dst := some 37, op := Op.move (Operand.tmp 10), type := 3, pos := "ref.go:103", after := #[], guard := none }) (v := .int .i64 (k : Int)) rfl (by kernel_rfl) (by kernel_rfl) (by kernel_rfl) (fun _ _ _ h => h) (Or.inl ⟨by rfl, fun w' hS' => by go_simp⟩) (by assumption) ?_
      simp only [Act.put, List.setIfInBounds_toArray, List.set_cons_zero, List.set_cons_succ]
      refine wpAnyH_take (i := 3) (oi := { dst := some 38, op := Op.indexAddr 50 (Operand.tmp 36) (Operand.tmp 37), type := 0, pos := "ref.go:103", after := #[{ on := 1, ground := Ground.data }, { on := 2, ground := Ground.data }], guard := none }) (v := .pointer (some ⟨g, o + k * 6, none⟩)) rfl (by kernel_rfl) (by kernel_rfl) (by kernel_rfl) (fun _ _ _ h => h) (Or.inl ⟨by rfl, fun w' hS' => by go_simp⟩) (by assumption) ?_
      simp only [Act.put, List.setIfInBounds_toArray, List.set_cons_zero, List.set_cons_succ]
      refine wpAnyH_take (i := 4) (oi := { dst := some 39, op := Op.load 35 (Operand.tmp 38), type := 35, pos := "ref.go:103", after := #[{ on := 3, ground := Ground.data }], guard := none }) (v := .agg #[.int .i64 x.kind, .int .u64 (x.v.a : Int), .int .u64 (x.v.b : Int), .int .u64 (x.v.c : Int), .slice x.A x.v.pre.length x.c, .slice x.B x.v.build.length x.d]) rfl (by kernel_rfl) (by kernel_rfl) (by kernel_rfl) (fun _ _ _ h => h) (Or.inl ⟨by rfl, fun w' hS' => by have q0 := (hS'.cell (p := ⟨g, o + k * 6, none⟩) hgl).trans x0; have q1 := (hS'.cell (p := ⟨g, o + k * 6 + 1, none⟩) hgl).trans x1; have q2 := (hS'.cell (p := ⟨g, o + k * 6 + 2, none⟩) hgl).trans x2; have q3 := (hS'.cell (p := ⟨g, o + k * 6 + 3, none⟩) hgl).trans x3; have q4 := (hS'.cell (p := ⟨g, o + k * 6 + 4, none⟩) hgl).trans x4; have q5 := (hS'.cell (p := ⟨g, o + k * 6 + 5, none⟩) hgl).trans x5; go_simp⟩) (by assumption) ?_
      simp only [Act.put, List.setIfInBounds_toArray, List.set_cons_zero, List.set_cons_succ]
      refine wpAnyH_take (i := 5) (oi := { dst := some 40, op := Op.move (Operand.tmp 7), type := 50, pos := "ref.go:103", after := #[], guard := none }) (v := .slice (some ⟨g, o, none⟩) L.length cp) rfl (by kernel_rfl) (by kernel_rfl) (by kernel_rfl) (fun _ _ _ h => h) (Or.inl ⟨by rfl, fun w' hS' => by go_simp⟩) (by assumption) ?_
      simp only [Act.put, List.setIfInBounds_toArray, List.set_cons_zero, List.set_cons_succ]
      refine wpAnyH_take (i := 6) (oi := { dst := some 41, op := Op.move (Operand.tmp 10), type := 3, pos := "ref.go:103", after := #[], guard := none }) (v := .int .i64 (k : Int)) rfl (by kernel_rfl) (by kernel_rfl) (by kernel_rfl) (fun _ _ _ h => h) (Or.inl ⟨by rfl, fun w' hS' => by go_simp⟩) (by assumption) ?_
      simp only [Act.put, List.setIfInBounds_toArray, List.set_cons_zero, List.set_cons_succ]
      refine wpAnyH_take (i := 7) (oi := { dst := some 42, op := Op.binOp BinOp.add 3 (Operand.tmp 41) (Operand.const (Value.int IntKind.i64 1)) 3, type := 3, pos := "ref.go:103", after := #[{ on := 6, ground := Ground.data }], guard := none }) (v := .int .i64 (k1 : Int)) rfl (by kernel_rfl) (by kernel_rfl) (by kernel_rfl) (fun _ _ _ h => h) (Or.inl ⟨by rfl, fun w' hS' => by rw [← hk1]; go_simp; first | done | (rw [IntKind.wrap_i64]; omega)⟩) (by assumption) ?_
      simp only [Act.put, List.setIfInBounds_toArray, List.set_cons_zero, List.set_cons_succ]
      refine wpAnyH_take (i := 8) (oi := { dst := some 43, op := Op.indexAddr 50 (Operand.tmp 40) (Operand.tmp 42), type := 0, pos := "ref.go:103", after := #[{ on := 5, ground := Ground.data }, { on := 7, ground := Ground.data }], guard := none }) (v := .pointer (some ⟨g, o + k1 * 6, none⟩)) rfl (by kernel_rfl) (by kernel_rfl) (by kernel_rfl) (fun _ _ _ h => h) (Or.inl ⟨by rfl, fun w' hS' => by go_simp⟩) (by assumption) ?_
      simp only [Act.put, List.setIfInBounds_toArray, List.set_cons_zero, List.set_cons_succ]
      refine wpAnyH_take (i := 9) (oi := { dst := some 44, op := Op.load 35 (Operand.tmp 43), type := 35, pos := "ref.go:103", after := #[{ on := 8, ground := Ground.data }], guard := none }) (v := .agg #[.int .i64 y.kind, .int .u64 (y.v.a : Int), .int .u64 (y.v.b : Int), .int .u64 (y.v.c : Int), .slice y.A y.v.pre.length y.c, .slice y.B y.v.build.length y.d]) rfl (by kernel_rfl) (by kernel_rfl) (by kernel_rfl) (fun _ _ _ h => h) (Or.inl ⟨by rfl, fun w' hS' => by have q0 := (hS'.cell (p := ⟨g, o + k1 * 6, none⟩) hgl).trans y0; have q1 := (hS'.cell (p := ⟨g, o + k1 * 6 + 1, none⟩) hgl).trans y1; have q2 := (hS'.cell (p := ⟨g, o + k1 * 6 + 2, none⟩) hgl).trans y2; have q3 := (hS'.cell (p := ⟨g, o + k1 * 6 + 3, none⟩) hgl).trans y3; have q4 := (hS'.cell (p := ⟨g, o + k1 * 6 + 4, none⟩) hgl).trans y4; have q5 := (hS'.cell (p := ⟨g, o + k1 * 6 + 5, none⟩) hgl).trans y5; go_simp⟩) (by assumption) ?_
      simp only [Act.put, List.setIfInBounds_toArray, List.set_cons_zero, List.set_cons_succ]
      refine wpAnyH_ready (rs := [10]) (by kernel_rfl) (by simp) ?_
      refine AllReadyH.cons (o := { dst := some 45, op := Op.call { callee := Callee.value (Operand.func 24), args := #[Operand.tmp 35, Operand.tmp 39, Operand.tmp 44], argTypes := #[22, 35, 35] }, type := 4, pos := "ref.go:103", after := #[{ on := 0, ground := Ground.data }, { on := 4, ground := Ground.data }, { on := 9, ground := Ground.data }], guard := none }) rfl (fun K hK => ?_) AllReadyH.nil
      go_simp
      refine (covers_any _ _ _ r x y _ (HRB.out.kept (BW.out.trans (HBW.out.mono BW.out.size))) (by omega) (LX.out.kept HBW.out) (LY.out.kept HBW.out)).mono ?_
      rintro e wv1 ⟨rfl, hb⟩
      generalize coversB (r.map RSp.sp) x.cut y.cut = gy at HY ⊢
      replace HBW := Lib.hid (HBW.out.trans (hb.mono HBW.out.size))
      clear hb hHeld
      refine hK.out _ _ HBW.out (fun hHeld => ?_)
      clear hK K
      try simp only [Act.put, List.setIfInBounds_toArray, List.set_cons_zero, List.set_cons_succ]
      refine wpAnyH_take (i := 11) (oi := { dst := some 12, op := Op.assign (Operand.tmp 45), type := 4, pos := "ref.go:103", after := #[{ on := 10, ground := Ground.data }, { on := 10, ground := Ground.chain }, { on := 0, ground := Ground.phase }, { on := 1, ground := Ground.phase }, { on := 2, ground := Ground.phase }, { on := 3, ground := Ground.phase }, { on := 4, ground := Ground.phase }, { on := 5, ground := Ground.phase }, { on := 6, ground := Ground.phase }, { on := 7, ground := Ground.phase }, { on := 8, ground := Ground.phase }, { on := 9, ground := Ground.phase }, { on := 10, ground := Ground.phase }], guard := none }) (v := .bool gy) rfl (by kernel_rfl) (by kernel_rfl) (by kernel_rfl) (fun _ _ _ h => h) (Or.inl ⟨by rfl, fun w' hS' => by go_simp⟩) (by assumption) ?_
      simp only [Act.put, List.setIfInBounds_toArray, List.set_cons_zero, List.set_cons_succ]
      refine wpAnyH_done (by kernel_rfl) ?_ _
      have HO2 := Lib.hid (own_below HO.out HBW.out)
      have HBC := Lib.hid (HBel.out.trans (HBW.out.mono HBel.out.size))
      have CX2 := Lib.hid (show _ from cells_kept CX.out hgl HBW.out)
      have CY2 := Lib.hid (show _ from cells_kept CY.out hgl HBW.out)
      clear x0 x1 x2 x3 x4 x5 y0 y1 y2 y3 y4 y5 HO CX CY LX LY
      go_upto_region 9 with (fail)
      generalize wv1 = wv at HBW HO2 HBC CX2 CY2 ⊢
      rcases hhow with rfl | rfl | rfl
      · cases gx <;> cases gy
        · have HFk : Hid (pieceB (l.map RSp.sp) (r.map RSp.sp) 0 (L.map RCut.cut) k = false) := by unfold Hid pieceB; rw [HX.out, HY.out]; rfl
          have HI2 := Lib.hid (HI.out.no HL.out (by rw [List.length_map]; omega) HFk.out)
          clear HX HY HFk
          cases ob
          all_goals
            go_wp2
            exact ⟨⟨k + 1, out, false, by omega, by go_num, rfl, HO2.out, HLO.out, HI2.out, HBC.out⟩, by simp [intOf]; omega⟩
        · have HFk : Hid (pieceB (l.map RSp.sp) (r.map RSp.sp) 0 (L.map RCut.cut) k = true) := by unfold Hid pieceB; rw [HX.out, HY.out]; rfl
          cases ob
          · have HI2 : Hid (BInv (L.map RCut.cut) (pieceB (l.map RSp.sp) (r.map RSp.sp) 0 (L.map RCut.cut)) (k + 1) true ((out ++ [(⟨x, y⟩ : RSp)]).map RSp.sp)) := by
              have q := HI.out.new HL.out (by rw [List.length_map]; omega) HFk.out
              rw [EX.out, EY.out] at q
              rw [List.map_append]; exact q
            clear HX HY HFk
            go_upto_region 15 with (fail)
            refine new15 _ g o cp k k1 wc.heap.size L x y _ out _ _ _ _ _ _ _ _ _ _ _ _ _ _ _ _ _ _ _ _ _ _ _ _ _ _ _ _ _ _ _ _ _ _ _ _ _ _ _ _ _ _ _ _ _ _ _ _ _ _ _ _ _ _ _ _ _ _ _ _ _ _ _ _ _ _ _ _ _ _ _ _ _ _ _ _ _ _ _ _ _ _ _ _ _ _ _ _ _ _ _ _ hk1 (by omega) (by omega) (by omega) hgw HBC.out.size CX2.out CY2.out HO2.out (fun _ _ _ _ _ h => h) ?_
            intro v8 w8 t0 t1 t2 t3 t4 t5 t6 t7 t8 t9 t10 t11 t12 ho8 hb8
            have O8 := Lib.hid ho8
            have B8 := Lib.hid (HBC.out.trans hb8)
            clear ho8 hb8
            go_wp2
            refine ⟨⟨k + 1, out ++ [⟨x, y⟩], true, by omega, by go_num, rfl, ?_, ?_, HI2.out, B8.out⟩, by simp [intOf]; omega⟩
            · rw [List.length_append]; exact O8.out
            · intro s hs
              rcases List.mem_append.1 hs with hs | hs
              · exact HLO.out s hs
              · rw [List.mem_singleton] at hs; subst hs; exact ⟨LX0.out, LY0.out⟩
          · obtain ⟨pre, s, hps, hsh⟩ := snoc_of (HI.out.opened rfl)
            subst hps
            have HI2 : Hid (BInv (L.map RCut.cut) (pieceB (l.map RSp.sp) (r.map RSp.sp) 0 (L.map RCut.cut)) (k + 1) true ((pre ++ [(⟨s.lo, y⟩ : RSp)]).map RSp.sp)) := by
              have h0 := HI.out
              rw [List.map_append] at h0
              have q := h0.on hsh HL.out (by rw [List.length_map]; omega) HFk.out
              rw [EY.out] at q
              rw [List.map_append]; exact q
            obtain ⟨gs, cs, rfl, hgs, hcs, hcm, hgB⟩ := own_last HO2.out
            have hpl : (pre ++ [s]).length = pre.length + 1 := by simp
            rw [hpl] at HO2 ⊢
            have OS := Lib.hid (own_hi y HO2.out)
            have BS := Lib.hid (below_setAt HBC.out hgB (pre.length * 12 + 6) (.int .i64 y.kind) (.int .u64 (y.v.a : Int)) (.int .u64 (y.v.b : Int)) (.int .u64 (y.v.c : Int)) (.slice y.A y.v.pre.length y.c) (.slice y.B y.v.build.length y.d))
            obtain ⟨hfz, s0, s1, s2, s3, s4, s5⟩ := own_hi_cells HO2.out
            obtain ⟨y0, y1, y2, y3, y4, y5⟩ := CY2.out
            have hLO2 : Hid (∀ z ∈ pre ++ [(⟨s.lo, y⟩ : RSp)], LiesS w z) := fun z hz => by
              rcases List.mem_append.1 hz with hz | hz
              · exact HLO.out z (List.mem_append_left _ hz)
              · rw [List.mem_singleton] at hz; subst hz; exact ⟨(HLO.out s (by simp)).lo, LY0.out⟩
            have hne : g ≠ gs := by omega
            unfold maxLen at hcm
            clear HX HY HFk hsh
            go_wp2
            refine ⟨⟨k + 1, pre ++ [⟨s.lo, y⟩], true, by omega, by go_num, rfl, ?_, hLO2.out, HI2.out, BS.out⟩, by simp [intOf]; omega⟩
            rw [show (pre ++ [(⟨s.lo, y⟩ : RSp)]).length = pre.length + 1 by simp]; exact OS.out
        · have HFk : Hid (pieceB (l.map RSp.sp) (r.map RSp.sp) 0 (L.map RCut.cut) k = true) := by unfold Hid pieceB; rw [HX.out, HY.out]; rfl
          cases ob
          · have HI2 : Hid (BInv (L.map RCut.cut) (pieceB (l.map RSp.sp) (r.map RSp.sp) 0 (L.map RCut.cut)) (k + 1) true ((out ++ [(⟨x, y⟩ : RSp)]).map RSp.sp)) := by
              have q := HI.out.new HL.out (by rw [List.length_map]; omega) HFk.out
              rw [EX.out, EY.out] at q
              rw [List.map_append]; exact q
            clear HX HY HFk
            go_upto_region 15 with (fail)
            refine new15 _ g o cp k k1 wc.heap.size L x y _ out _ _ _ _ _ _ _ _ _ _ _ _ _ _ _ _ _ _ _ _ _ _ _ _ _ _ _ _ _ _ _ _ _ _ _ _ _ _ _ _ _ _ _ _ _ _ _ _ _ _ _ _ _ _ _ _ _ _ _ _ _ _ _ _ _ _ _ _ _ _ _ _ _ _ _ _ _ _ _ _ _ _ _ _ _ _ _ _ _ _ _ _ hk1 (by omega) (by omega) (by omega) hgw HBC.out.size CX2.out CY2.out HO2.out (fun _ _ _ _ _ h => h) ?_
            intro v8 w8 t0 t1 t2 t3 t4 t5 t6 t7 t8 t9 t10 t11 t12 ho8 hb8
            have O8 := Lib.hid ho8
            have B8 := Lib.hid (HBC.out.trans hb8)
            clear ho8 hb8
            go_wp2
            refine ⟨⟨k + 1, out ++ [⟨x, y⟩], true, by omega, by go_num, rfl, ?_, ?_, HI2.out, B8.out⟩, by simp [intOf]; omega⟩
            · rw [List.length_append]; exact O8.out
            · intro s hs
              rcases List.mem_append.1 hs with hs | hs
              · exact HLO.out s hs
              · rw [List.mem_singleton] at hs; subst hs; exact ⟨LX0.out, LY0.out⟩
          · obtain ⟨pre, s, hps, hsh⟩ := snoc_of (HI.out.opened rfl)
            subst hps
            have HI2 : Hid (BInv (L.map RCut.cut) (pieceB (l.map RSp.sp) (r.map RSp.sp) 0 (L.map RCut.cut)) (k + 1) true ((pre ++ [(⟨s.lo, y⟩ : RSp)]).map RSp.sp)) := by
              have h0 := HI.out
              rw [List.map_append] at h0
              have q := h0.on hsh HL.out (by rw [List.length_map]; omega) HFk.out
              rw [EY.out] at q
              rw [List.map_append]; exact q
            obtain ⟨gs, cs, rfl, hgs, hcs, hcm, hgB⟩ := own_last HO2.out
            have hpl : (pre ++ [s]).length = pre.length + 1 := by simp
            rw [hpl] at HO2 ⊢
            have OS := Lib.hid (own_hi y HO2.out)
            have BS := Lib.hid (below_setAt HBC.out hgB (pre.length * 12 + 6) (.int .i64 y.kind) (.int .u64 (y.v.a : Int)) (.int .u64 (y.v.b : Int)) (.int .u64 (y.v.c : Int)) (.slice y.A y.v.pre.length y.c) (.slice y.B y.v.build.length y.d))
            obtain ⟨hfz, s0, s1, s2, s3, s4, s5⟩ := own_hi_cells HO2.out
            obtain ⟨y0, y1, y2, y3, y4, y5⟩ := CY2.out
            have hLO2 : Hid (∀ z ∈ pre ++ [(⟨s.lo, y⟩ : RSp)], LiesS w z) := fun z hz => by
              rcases List.mem_append.1 hz with hz | hz
              · exact HLO.out z (List.mem_append_left _ hz)
              · rw [List.mem_singleton] at hz; subst hz; exact ⟨(HLO.out s (by simp)).lo, LY0.out⟩
            have hne : g ≠ gs := by omega
            unfold maxLen at hcm
            clear HX HY HFk hsh
            go_wp2
            refine ⟨⟨k + 1, pre ++ [⟨s.lo, y⟩], true, by omega, by go_num, rfl, ?_, hLO2.out, HI2.out, BS.out⟩, by simp [intOf]; omega⟩
            rw [show (pre ++ [(⟨s.lo, y⟩ : RSp)]).length = pre.length + 1 by simp]; exact OS.out
        · have HFk : Hid (pieceB (l.map RSp.sp) (r.map RSp.sp) 0 (L.map RCut.cut) k = true) := by unfold Hid pieceB; rw [HX.out, HY.out]; rfl
          cases ob
          · have HI2 : Hid (BInv (L.map RCut.cut) (pieceB (l.map RSp.sp) (r.map RSp.sp) 0 (L.map RCut.cut)) (k + 1) true ((out ++ [(⟨x, y⟩ : RSp)]).map RSp.sp)) := by
              have q := HI.out.new HL.out (by rw [List.length_map]; omega) HFk.out
              rw [EX.out, EY.out] at q
              rw [List.map_append]; exact q
            clear HX HY HFk
            go_upto_region 15 with (fail)
            refine new15 _ g o cp k k1 wc.heap.size L x y _ out _ _ _ _ _ _ _ _ _ _ _ _ _ _ _ _ _ _ _ _ _ _ _ _ _ _ _ _ _ _ _ _ _ _ _ _ _ _ _ _ _ _ _ _ _ _ _ _ _ _ _ _ _ _ _ _ _ _ _ _ _ _ _ _ _ _ _ _ _ _ _ _ _ _ _ _ _ _ _ _ _ _ _ _ _ _ _ _ _ _ _ _ hk1 (by omega) (by omega) (by omega) hgw HBC.out.size CX2.out CY2.out HO2.out (fun _ _ _ _ _ h => h) ?_
            intro v8 w8 t0 t1 t2 t3 t4 t5 t6 t7 t8 t9 t10 t11 t12 ho8 hb8
            have O8 := Lib.hid ho8
            have B8 := Lib.hid (HBC.out.trans hb8)
            clear ho8 hb8
            go_wp2
            refine ⟨⟨k + 1, out ++ [⟨x, y⟩], true, by omega, by go_num, rfl, ?_, ?_, HI2.out, B8.out⟩, by simp [intOf]; omega⟩
            · rw [List.length_append]; exact O8.out
            · intro s hs
              rcases List.mem_append.1 hs with hs | hs
              · exact HLO.out s hs
              · rw [List.mem_singleton] at hs; subst hs; exact ⟨LX0.out, LY0.out⟩
          · obtain ⟨pre, s, hps, hsh⟩ := snoc_of (HI.out.opened rfl)
            subst hps
            have HI2 : Hid (BInv (L.map RCut.cut) (pieceB (l.map RSp.sp) (r.map RSp.sp) 0 (L.map RCut.cut)) (k + 1) true ((pre ++ [(⟨s.lo, y⟩ : RSp)]).map RSp.sp)) := by
              have h0 := HI.out
              rw [List.map_append] at h0
              have q := h0.on hsh HL.out (by rw [List.length_map]; omega) HFk.out
              rw [EY.out] at q
              rw [List.map_append]; exact q
            obtain ⟨gs, cs, rfl, hgs, hcs, hcm, hgB⟩ := own_last HO2.out
            have hpl : (pre ++ [s]).length = pre.length + 1 := by simp
            rw [hpl] at HO2 ⊢
            have OS := Lib.hid (own_hi y HO2.out)
            have BS := Lib.hid (below_setAt HBC.out hgB (pre.length * 12 + 6) (.int .i64 y.kind) (.int .u64 (y.v.a : Int)) (.int .u64 (y.v.b : Int)) (.int .u64 (y.v.c : Int)) (.slice y.A y.v.pre.length y.c) (.slice y.B y.v.build.length y.d))
            obtain ⟨hfz, s0, s1, s2, s3, s4, s5⟩ := own_hi_cells HO2.out
            obtain ⟨y0, y1, y2, y3, y4, y5⟩ := CY2.out
            have hLO2 : Hid (∀ z ∈ pre ++ [(⟨s.lo, y⟩ : RSp)], LiesS w z) := fun z hz => by
              rcases List.mem_append.1 hz with hz | hz
              · exact HLO.out z (List.mem_append_left _ hz)
              · rw [List.mem_singleton] at hz; subst hz; exact ⟨(HLO.out s (by simp)).lo, LY0.out⟩
            have hne : g ≠ gs := by omega
            unfold maxLen at hcm
            clear HX HY HFk hsh
            go_wp2
            refine ⟨⟨k + 1, pre ++ [⟨s.lo, y⟩], true, by omega, by go_num, rfl, ?_, hLO2.out, HI2.out, BS.out⟩, by simp [intOf]; omega⟩
            rw [show (pre ++ [(⟨s.lo, y⟩ : RSp)]).length = pre.length + 1 by simp]; exact OS.out
      · cases gx <;> cases gy
        · have HFk : Hid (pieceB (l.map RSp.sp) (r.map RSp.sp) 1 (L.map RCut.cut) k = false) := by unfold Hid pieceB; rw [HX.out, HY.out]; rfl
          have HI2 := Lib.hid (HI.out.no HL.out (by rw [List.length_map]; omega) HFk.out)
          clear HX HY HFk
          cases ob
          all_goals
            go_wp2
            exact ⟨⟨k + 1, out, false, by omega, by go_num, rfl, HO2.out, HLO.out, HI2.out, HBC.out⟩, by simp [intOf]; omega⟩
        · have HFk : Hid (pieceB (l.map RSp.sp) (r.map RSp.sp) 1 (L.map RCut.cut) k = false) := by unfold Hid pieceB; rw [HX.out, HY.out]; rfl
          have HI2 := Lib.hid (HI.out.no HL.out (by rw [List.length_map]; omega) HFk.out)
          clear HX HY HFk
          cases ob
          all_goals
            go_wp2
            exact ⟨⟨k + 1, out, false, by omega, by go_num, rfl, HO2.out, HLO.out, HI2.out, HBC.out⟩, by simp [intOf]; omega⟩
        · have HFk : Hid (pieceB (l.map RSp.sp) (r.map RSp.sp) 1 (L.map RCut.cut) k = false) := by unfold Hid pieceB; rw [HX.out, HY.out]; rfl
          have HI2 := Lib.hid (HI.out.no HL.out (by rw [List.length_map]; omega) HFk.out)
          clear HX HY HFk
          cases ob
          all_goals
            go_wp2
            exact ⟨⟨k + 1, out, false, by omega, by go_num, rfl, HO2.out, HLO.out, HI2.out, HBC.out⟩, by simp [intOf]; omega⟩
        · have HFk : Hid (pieceB (l.map RSp.sp) (r.map RSp.sp) 1 (L.map RCut.cut) k = true) := by unfold Hid pieceB; rw [HX.out, HY.out]; rfl
          cases ob
          · have HI2 : Hid (BInv (L.map RCut.cut) (pieceB (l.map RSp.sp) (r.map RSp.sp) 1 (L.map RCut.cut)) (k + 1) true ((out ++ [(⟨x, y⟩ : RSp)]).map RSp.sp)) := by
              have q := HI.out.new HL.out (by rw [List.length_map]; omega) HFk.out
              rw [EX.out, EY.out] at q
              rw [List.map_append]; exact q
            clear HX HY HFk
            go_upto_region 15 with (fail)
            refine new15 _ g o cp k k1 wc.heap.size L x y _ out _ _ _ _ _ _ _ _ _ _ _ _ _ _ _ _ _ _ _ _ _ _ _ _ _ _ _ _ _ _ _ _ _ _ _ _ _ _ _ _ _ _ _ _ _ _ _ _ _ _ _ _ _ _ _ _ _ _ _ _ _ _ _ _ _ _ _ _ _ _ _ _ _ _ _ _ _ _ _ _ _ _ _ _ _ _ _ _ _ _ _ _ hk1 (by omega) (by omega) (by omega) hgw HBC.out.size CX2.out CY2.out HO2.out (fun _ _ _ _ _ h => h) ?_
            intro v8 w8 t0 t1 t2 t3 t4 t5 t6 t7 t8 t9 t10 t11 t12 ho8 hb8
            have O8 := Lib.hid ho8
            have B8 := Lib.hid (HBC.out.trans hb8)
            clear ho8 hb8
            go_wp2
            refine ⟨⟨k + 1, out ++ [⟨x, y⟩], true, by omega, by go_num, rfl, ?_, ?_, HI2.out, B8.out⟩, by simp [intOf]; omega⟩
            · rw [List.length_append]; exact O8.out
            · intro s hs
              rcases List.mem_append.1 hs with hs | hs
              · exact HLO.out s hs
              · rw [List.mem_singleton] at hs; subst hs; exact ⟨LX0.out, LY0.out⟩
          · obtain ⟨pre, s, hps, hsh⟩ := snoc_of (HI.out.opened rfl)
            subst hps
            have HI2 : Hid (BInv (L.map RCut.cut) (pieceB (l.map RSp.sp) (r.map RSp.sp) 1 (L.map RCut.cut)) (k + 1) true ((pre ++ [(⟨s.lo, y⟩ : RSp)]).map RSp.sp)) := by
              have h0 := HI.out
              rw [List.map_append] at h0
              have q := h0.on hsh HL.out (by rw [List.length_map]; omega) HFk.out
              rw [EY.out] at q
              rw [List.map_append]; exact q
            obtain ⟨gs, cs, rfl, hgs, hcs, hcm, hgB⟩ := own_last HO2.out
            have hpl : (pre ++ [s]).length = pre.length + 1 := by simp
            rw [hpl] at HO2 ⊢
            have OS := Lib.hid (own_hi y HO2.out)
            have BS := Lib.hid (below_setAt HBC.out hgB (pre.length * 12 + 6) (.int .i64 y.kind) (.int .u64 (y.v.a : Int)) (.int .u64 (y.v.b : Int)) (.int .u64 (y.v.c : Int)) (.slice y.A y.v.pre.length y.c) (.slice y.B y.v.build.length y.d))
            obtain ⟨hfz, s0, s1, s2, s3, s4, s5⟩ := own_hi_cells HO2.out
            obtain ⟨y0, y1, y2, y3, y4, y5⟩ := CY2.out
            have hLO2 : Hid (∀ z ∈ pre ++ [(⟨s.lo, y⟩ : RSp)], LiesS w z) := fun z hz => by
              rcases List.mem_append.1 hz with hz | hz
              · exact HLO.out z (List.mem_append_left _ hz)
              · rw [List.mem_singleton] at hz; subst hz; exact ⟨(HLO.out s (by simp)).lo, LY0.out⟩
            have hne : g ≠ gs := by omega
            unfold maxLen at hcm
            clear HX HY HFk hsh
            go_wp2
            refine ⟨⟨k + 1, pre ++ [⟨s.lo, y⟩], true, by omega, by go_num, rfl, ?_, hLO2.out, HI2.out, BS.out⟩, by simp [intOf]; omega⟩
            rw [show (pre ++ [(⟨s.lo, y⟩ : RSp)]).length = pre.length + 1 by simp]; exact OS.out
      · cases gx <;> cases gy
        · have HFk : Hid (pieceB (l.map RSp.sp) (r.map RSp.sp) 2 (L.map RCut.cut) k = true) := by unfold Hid pieceB; rw [HX.out, HY.out]; rfl
          cases ob
          · have HI2 : Hid (BInv (L.map RCut.cut) (pieceB (l.map RSp.sp) (r.map RSp.sp) 2 (L.map RCut.cut)) (k + 1) true ((out ++ [(⟨x, y⟩ : RSp)]).map RSp.sp)) := by
              have q := HI.out.new HL.out (by rw [List.length_map]; omega) HFk.out
              rw [EX.out, EY.out] at q
              rw [List.map_append]; exact q
            clear HX HY HFk
            go_upto_region 15 with (fail)
            refine new15 _ g o cp k k1 wc.heap.size L x y _ out _ _ _ _ _ _ _ _ _ _ _ _ _ _ _ _ _ _ _ _ _ _ _ _ _ _ _ _ _ _ _ _ _ _ _ _ _ _ _ _ _ _ _ _ _ _ _ _ _ _ _ _ _ _ _ _ _ _ _ _ _ _ _ _ _ _ _ _ _ _ _ _ _ _ _ _ _ _ _ _ _ _ _ _ _ _ _ _ _ _ _ _ hk1 (by omega) (by omega) (by omega) hgw HBC.out.size CX2.out CY2.out HO2.out (fun _ _ _ _ _ h => h) ?_
            intro v8 w8 t0 t1 t2 t3 t4 t5 t6 t7 t8 t9 t10 t11 t12 ho8 hb8
            have O8 := Lib.hid ho8
            have B8 := Lib.hid (HBC.out.trans hb8)
            clear ho8 hb8
            go_wp2
            refine ⟨⟨k + 1, out ++ [⟨x, y⟩], true, by omega, by go_num, rfl, ?_, ?_, HI2.out, B8.out⟩, by simp [intOf]; omega⟩
            · rw [List.length_append]; exact O8.out
            · intro s hs
              rcases List.mem_append.1 hs with hs | hs
              · exact HLO.out s hs
              · rw [List.mem_singleton] at hs; subst hs; exact ⟨LX0.out, LY0.out⟩
          · obtain ⟨pre, s, hps, hsh⟩ := snoc_of (HI.out.opened rfl)
            subst hps
            have HI2 : Hid (BInv (L.map RCut.cut) (pieceB (l.map RSp.sp) (r.map RSp.sp) 2 (L.map RCut.cut)) (k + 1) true ((pre ++ [(⟨s.lo, y⟩ : RSp)]).map RSp.sp)) := by
              have h0 := HI.out
              rw [List.map_append] at h0
              have q := h0.on hsh HL.out (by rw [List.length_map]; omega) HFk.out
              rw [EY.out] at q
              rw [List.map_append]; exact q
            obtain ⟨gs, cs, rfl, hgs, hcs, hcm, hgB⟩ := own_last HO2.out
            have hpl : (pre ++ [s]).length = pre.length + 1 := by simp
            rw [hpl] at HO2 ⊢
            have OS := Lib.hid (own_hi y HO2.out)
            have BS := Lib.hid (below_setAt HBC.out hgB (pre.length * 12 + 6) (.int .i64 y.kind) (.int .u64 (y.v.a : Int)) (.int .u64 (y.v.b : Int)) (.int .u64 (y.v.c : Int)) (.slice y.A y.v.pre.length y.c) (.slice y.B y.v.build.length y.d))
            obtain ⟨hfz, s0, s1, s2, s3, s4, s5⟩ := own_hi_cells HO2.out
            obtain ⟨y0, y1, y2, y3, y4, y5⟩ := CY2.out
            have hLO2 : Hid (∀ z ∈ pre ++ [(⟨s.lo, y⟩ : RSp)], LiesS w z) := fun z hz => by
              rcases List.mem_append.1 hz with hz | hz
              · exact HLO.out z (List.mem_append_left _ hz)
              · rw [List.mem_singleton] at hz; subst hz; exact ⟨(HLO.out s (by simp)).lo, LY0.out⟩
            have hne : g ≠ gs := by omega
            unfold maxLen at hcm
            clear HX HY HFk hsh
            go_wp2
            refine ⟨⟨k + 1, pre ++ [⟨s.lo, y⟩], true, by omega, by go_num, rfl, ?_, hLO2.out, HI2.out, BS.out⟩, by simp [intOf]; omega⟩
            rw [show (pre ++ [(⟨s.lo, y⟩ : RSp)]).length = pre.length + 1 by simp]; exact OS.out
        · have HFk : Hid (pieceB (l.map RSp.sp) (r.map RSp.sp) 2 (L.map RCut.cut) k = true) := by unfold Hid pieceB; rw [HX.out, HY.out]; rfl
          cases ob
          · have HI2 : Hid (BInv (L.map RCut.cut) (pieceB (l.map RSp.sp) (r.map RSp.sp) 2 (L.map RCut.cut)) (k + 1) true ((out ++ [(⟨x, y⟩ : RSp)]).map RSp.sp)) := by
              have q := HI.out.new HL.out (by rw [List.length_map]; omega) HFk.out
              rw [EX.out, EY.out] at q
              rw [List.map_append]; exact q
            clear HX HY HFk
            go_upto_region 15 with (fail)
            refine new15 _ g o cp k k1 wc.heap.size L x y _ out _ _ _ _ _ _ _ _ _ _ _ _ _ _ _ _ _ _ _ _ _ _ _ _ _ _ _ _ _ _ _ _ _ _ _ _ _ _ _ _ _ _ _ _ _ _ _ _ _ _ _ _ _ _ _ _ _ _ _ _ _ _ _ _ _ _ _ _ _ _ _ _ _ _ _ _ _ _ _ _ _ _ _ _ _ _ _ _ _ _ _ _ hk1 (by omega) (by omega) (by omega) hgw HBC.out.size CX2.out CY2.out HO2.out (fun _ _ _ _ _ h => h) ?_
            intro v8 w8 t0 t1 t2 t3 t4 t5 t6 t7 t8 t9 t10 t11 t12 ho8 hb8
            have O8 := Lib.hid ho8
            have B8 := Lib.hid (HBC.out.trans hb8)
            clear ho8 hb8
            go_wp2
            refine ⟨⟨k + 1, out ++ [⟨x, y⟩], true, by omega, by go_num, rfl, ?_, ?_, HI2.out, B8.out⟩, by simp [intOf]; omega⟩
            · rw [List.length_append]; exact O8.out
            · intro s hs
              rcases List.mem_append.1 hs with hs | hs
              · exact HLO.out s hs
              · rw [List.mem_singleton] at hs; subst hs; exact ⟨LX0.out, LY0.out⟩
          · obtain ⟨pre, s, hps, hsh⟩ := snoc_of (HI.out.opened rfl)
            subst hps
            have HI2 : Hid (BInv (L.map RCut.cut) (pieceB (l.map RSp.sp) (r.map RSp.sp) 2 (L.map RCut.cut)) (k + 1) true ((pre ++ [(⟨s.lo, y⟩ : RSp)]).map RSp.sp)) := by
              have h0 := HI.out
              rw [List.map_append] at h0
              have q := h0.on hsh HL.out (by rw [List.length_map]; omega) HFk.out
              rw [EY.out] at q
              rw [List.map_append]; exact q
            obtain ⟨gs, cs, rfl, hgs, hcs, hcm, hgB⟩ := own_last HO2.out
            have hpl : (pre ++ [s]).length = pre.length + 1 := by simp
            rw [hpl] at HO2 ⊢
            have OS := Lib.hid (own_hi y HO2.out)
            have BS := Lib.hid (below_setAt HBC.out hgB (pre.length * 12 + 6) (.int .i64 y.kind) (.int .u64 (y.v.a : Int)) (.int .u64 (y.v.b : Int)) (.int .u64 (y.v.c : Int)) (.slice y.A y.v.pre.length y.c) (.slice y.B y.v.build.length y.d))
            obtain ⟨hfz, s0, s1, s2, s3, s4, s5⟩ := own_hi_cells HO2.out
            obtain ⟨y0, y1, y2, y3, y4, y5⟩ := CY2.out
            have hLO2 : Hid (∀ z ∈ pre ++ [(⟨s.lo, y⟩ : RSp)], LiesS w z) := fun z hz => by
              rcases List.mem_append.1 hz with hz | hz
              · exact HLO.out z (List.mem_append_left _ hz)
              · rw [List.mem_singleton] at hz; subst hz; exact ⟨(HLO.out s (by simp)).lo, LY0.out⟩
            have hne : g ≠ gs := by omega
            unfold maxLen at hcm
            clear HX HY HFk hsh
            go_wp2
            refine ⟨⟨k + 1, pre ++ [⟨s.lo, y⟩], true, by omega, by go_num, rfl, ?_, hLO2.out, HI2.out, BS.out⟩, by simp [intOf]; omega⟩
            rw [show (pre ++ [(⟨s.lo, y⟩ : RSp)]).length = pre.length + 1 by simp]; exact OS.out
        · have HFk : Hid (pieceB (l.map RSp.sp) (r.map RSp.sp) 2 (L.map RCut.cut) k = false) := by unfold Hid pieceB; rw [HX.out, HY.out]; rfl
          have HI2 := Lib.hid (HI.out.no HL.out (by rw [List.length_map]; omega) HFk.out)
          clear HX HY HFk
          cases ob
          all_goals
            go_wp2
            exact ⟨⟨k + 1, out, false, by omega, by go_num, rfl, HO2.out, HLO.out, HI2.out, HBC.out⟩, by simp [intOf]; omega⟩
        · have HFk : Hid (pieceB (l.map RSp.sp) (r.map RSp.sp) 2 (L.map RCut.cut) k = false) := by unfold Hid pieceB; rw [HX.out, HY.out]; rfl
          have HI2 := Lib.hid (HI.out.no HL.out (by rw [List.length_map]; omega) HFk.out)
          clear HX HY HFk
          cases ob
          all_goals
            go_wp2
            exact ⟨⟨k + 1, out, false, by omega, by go_num, rfl, HO2.out, HLO.out, HI2.out, HBC.out⟩, by simp [intOf]; omega⟩
    · have HFIN : Hid (BuiltOf (l.map RSp.sp) (r.map RSp.sp) how (out.map RSp.sp)) := ⟨HI.out.norm, built HL.out HI.out (by rw [List.length_map]; omega) (by rw [List.length_map]; omega) HH1.out HH2.out⟩
      obtain ⟨P, c, he, _, _, hcell⟩ := own_cells svals_len HO.out rfl
      subst he
      have HBF := Lib.hid (HB0.out.trans (HBel.out.mono HB0.out.size))
      have HROW : Hid (SpRow wr P out.length out) := ⟨rfl, fun s hs => (HLO.out s hs).kept HBF.out, fun h0 => by obtain ⟨g, e, _, h2, _, h3⟩ := hcell h0; exact ⟨g, 0, e, h2, h3⟩⟩
      clear hcell
      go_wp2
      go_ret
      exact ⟨P, out.length, c, out, rfl, HROW.out, by omega, HFIN.out, HBF.out⟩
end Go.Proofs.YtdbdeadcffpbfaaGreatDoor.Span

namespace Go.Proofs.YtdbdeadcffpbfaaGreatDoor.Span
open Go.RowKit Num Ident Semver Prec

theorem refSameL_any (A : Option Addr) (n ca : Nat) (l : List RSp) (B : Option Addr) (m cb : Nat) (r : List RSp) (w : World) (hr : SpRow w A n l) (hr2 : SpRow w B m r) (hn : n ≤ 100000) (h : Like (l.map RSp.sp) (r.map RSp.sp)) (hl : Rights (l.map RSp.sp)) (hr' : Rights (r.map RSp.sp)) :
    Calls Tryz.prog 8 #[.slice A n ca, .slice B m cb] w fun e w' => e = .returned (.bool true) ∧ Below w.heap.size w w' := by
  obtain rfl : n = m := by have := h.length; rw [List.length_map, List.length_map, hr.1, hr2.1] at this; exact this
  exact refSameS_any A n ca l B cb r w hr hr2 hn (h.zero hl hr' (by rw [hr.1]; exact Nat.le_refl _))
set_option maxRecDepth 100000 in
set_option maxHeartbeats 12800000 in
theorem spanSets_any (A : Option Addr) (n c : Nat) (l : List RSp) (B : Option Addr) (m d : Nat) (r : List RSp) (w : World) (hr : SpRow w A n l) (hq : SpRow w B m r) (hn : n ≤ maxLen) (hm : m ≤ maxLen) (na : A = none → c = 0) (nb : B = none → d = 0) :
    Calls Tryz.prog 3 #[.slice A n c, .slice B m d] w fun e w' => e = .returned (.bool true) ∧ Below w.heap.size w w' := by
  have HR := Lib.hid hr
  have HQ := Lib.hid hq
  have M1 := Lib.hid hn
  have M2 := Lib.hid hm
  have nA := Lib.hid na
  have nB := Lib.hid nb
  clear hr hq hn hm na nb
  go_enter Tryz.func3, Tryz.ntmps3
  go_wp2_with fail
  refine (awake_any _).mono ?_
  rintro e w1 ⟨rfl, hb⟩
  have HB := Lib.hid hb
  replace HR := Lib.hid (HR.out.kept hb)
  replace HQ := Lib.hid (HQ.out.kept hb)
  clear hb
  go_wp2_with fail
  refine (few_any _ _ _ l _ HR.out M1.out).mono ?_
  rintro e w2 ⟨ba, rfl, hba, rfl⟩
  cases ba
  · go_wp2
    go_ret
    exact ⟨rfl, HB.out⟩
  replace hba := hba rfl
  go_wp2_with fail
  refine (few_any _ _ _ r _ HQ.out M2.out).mono ?_
  rintro e w2 ⟨bb, rfl, hbb, rfl⟩
  cases bb
  · go_wp2
    go_ret
    exact ⟨rfl, HB.out⟩
  replace hbb := hbb rfl
  clear M1 M2
  go_wp2_with fail
  refine (normal_any _ _ _ l _ HR.out (by omega)).mono ?_
  rintro e w3 ⟨An, nn, cn, on, rfl, hr, hn, hp, hb⟩
  replace HR := Lib.hid (HR.out.kept hb)
  replace HQ := Lib.hid (HQ.out.kept hb)
  replace HB := Lib.hid (HB.out.trans (hb.mono HB.out.size))
  clear hb
  have Rn := Lib.hid hr
  have Pn := Lib.hid hp
  clear hr hp
  go_wp2_with fail
  refine (build_any _ _ _ l none 0 0 [] 0 _ ⟨HR.out, nA.out⟩ ⟨SpRow.none_ _ _, fun _ => rfl⟩ (by omega) (by omega) (.inl rfl)).mono ?_
  rintro e w4 ⟨Aa, na, ca, oa, rfl, hr, ha, hp, hb⟩
  replace HR := Lib.hid (HR.out.kept hb)
  replace HQ := Lib.hid (HQ.out.kept hb)
  replace Rn := Lib.hid (Rn.out.kept hb)
  replace HB := Lib.hid (HB.out.trans (hb.mono HB.out.size))
  clear hb
  have Ra := Lib.hid hr
  have Pa := Lib.hid hp
  clear hr hp
  go_wp2_with fail
  refine (refSameL_any _ _ _ on _ _ _ oa _ Rn.out Ra.out (by omega) (like_normal Pn.out Pa.out) Pn.out.1.rights Pa.out.1.rights).mono ?_
  rintro e w5 ⟨rfl, hb⟩
  replace HR := Lib.hid (HR.out.kept hb)
  replace HQ := Lib.hid (HQ.out.kept hb)
  replace Rn := Lib.hid (Rn.out.kept hb)
  replace Ra := Lib.hid (Ra.out.kept hb)
  replace HB := Lib.hid (HB.out.trans (hb.mono HB.out.size))
  clear hb
  go_wp2_with fail
  refine (union_any _ _ _ l _ _ _ r _ HR.out HQ.out (by omega) (by omega)).mono ?_
  rintro e w6 ⟨Au, nu, cu, ou, rfl, hr, hu, hp, hb⟩
  replace HR := Lib.hid (HR.out.kept hb)
  replace HQ := Lib.hid (HQ.out.kept hb)
  replace Rn := Lib.hid (Rn.out.kept hb)
  replace Ra := Lib.hid (Ra.out.kept hb)
  replace HB := Lib.hid (HB.out.trans (hb.mono HB.out.size))
  clear hb
  have Ru := Lib.hid hr
  have Pu := Lib.hid hp
  clear hr hp
  go_wp2_with fail
  refine (build_any _ _ _ l _ _ _ r 0 _ ⟨HR.out, nA.out⟩ ⟨HQ.out, nB.out⟩ (by omega) (by omega) (.inl rfl)).mono ?_
  rintro e w7 ⟨Av, nv, cv, ov, rfl, hr, hv, hp, hb⟩
  replace HR := Lib.hid (HR.out.kept hb)
  replace HQ := Lib.hid (HQ.out.kept hb)
  replace Rn := Lib.hid (Rn.out.kept hb)
  replace Ra := Lib.hid (Ra.out.kept hb)
  replace Ru := Lib.hid (Ru.out.kept hb)
  replace HB := Lib.hid (HB.out.trans (hb.mono HB.out.size))
  clear hb
  have Rv := Lib.hid hr
  have Pv := Lib.hid hp
  clear hr hp
  go_wp2_with fail
  refine (refSameL_any _ _ _ ou _ _ _ ov _ Ru.out Rv.out (by omega) (like_union Pu.out Pv.out) Pu.out.1.rights Pv.out.1.rights).mono ?_
  rintro e w8 ⟨rfl, hb⟩
  replace HR := Lib.hid (HR.out.kept hb)
  replace HQ := Lib.hid (HQ.out.kept hb)
  replace Rn := Lib.hid (Rn.out.kept hb)
  replace Ra := Lib.hid (Ra.out.kept hb)
  replace Ru := Lib.hid (Ru.out.kept hb)
  replace Rv := Lib.hid (Rv.out.kept hb)
  replace HB := Lib.hid (HB.out.trans (hb.mono HB.out.size))
  clear hb
  go_wp2_with fail
  refine (meet_any _ _ _ l _ _ _ r _ HR.out HQ.out (by omega) (by omega)).mono ?_
  rintro e w9 ⟨Am, nm, cm, om, rfl, hr, hm, hp, hb⟩
  replace HR := Lib.hid (HR.out.kept hb)
  replace HQ := Lib.hid (HQ.out.kept hb)
  replace Rn := Lib.hid (Rn.out.kept hb)
  replace Ra := Lib.hid (Ra.out.kept hb)
  replace Ru := Lib.hid (Ru.out.kept hb)
  replace Rv := Lib.hid (Rv.out.kept hb)
  replace HB := Lib.hid (HB.out.trans (hb.mono HB.out.size))
  clear hb
  have Rm := Lib.hid hr
  have Pm := Lib.hid hp
  clear hr hp
  go_wp2_with fail
  refine (build_any _ _ _ l _ _ _ r 1 _ ⟨HR.out, nA.out⟩ ⟨HQ.out, nB.out⟩ (by omega) (by omega) (.inr (.inl rfl))).mono ?_
  rintro e w10 ⟨Ax, nx, cx, ox, rfl, hr, hx, hp, hb⟩
  replace HR := Lib.hid (HR.out.kept hb)
  replace HQ := Lib.hid (HQ.out.kept hb)
  replace Rn := Lib.hid (Rn.out.kept hb)
  replace Ra := Lib.hid (Ra.out.kept hb)
  replace Ru := Lib.hid (Ru.out.kept hb)
  replace Rv := Lib.hid (Rv.out.kept hb)
  replace Rm := Lib.hid (Rm.out.kept hb)
  replace HB := Lib.hid (HB.out.trans (hb.mono HB.out.size))
  clear hb
  have Rx := Lib.hid hr
  have Px := Lib.hid hp
  clear hr hp
  go_wp2_with fail
  refine (refSameL_any _ _ _ om _ _ _ ox _ Rm.out Rx.out (by omega) (like_meet Pm.out Px.out) Pm.out.1.rights Px.out.1.rights).mono ?_
  rintro e w11 ⟨rfl, hb⟩
  replace HR := Lib.hid (HR.out.kept hb)
  replace HQ := Lib.hid (HQ.out.kept hb)
  replace Rn := Lib.hid (Rn.out.kept hb)
  replace Ra := Lib.hid (Ra.out.kept hb)
  replace Ru := Lib.hid (Ru.out.kept hb)
  replace Rv := Lib.hid (Rv.out.kept hb)
  replace Rm := Lib.hid (Rm.out.kept hb)
  replace Rx := Lib.hid (Rx.out.kept hb)
  replace HB := Lib.hid (HB.out.trans (hb.mono HB.out.size))
  clear hb
  go_wp2_with fail
  refine (not_any _ _ _ l _ HR.out (by omega)).mono ?_
  rintro e w12 ⟨Aq, nq, cq, oq, rfl, hr, hq, hp, hb⟩
  replace HR := Lib.hid (HR.out.kept hb)
  replace HQ := Lib.hid (HQ.out.kept hb)
  replace Rn := Lib.hid (Rn.out.kept hb)
  replace Ra := Lib.hid (Ra.out.kept hb)
  replace Ru := Lib.hid (Ru.out.kept hb)
  replace Rv := Lib.hid (Rv.out.kept hb)
  replace Rm := Lib.hid (Rm.out.kept hb)
  replace Rx := Lib.hid (Rx.out.kept hb)
  replace HB := Lib.hid (HB.out.trans (hb.mono HB.out.size))
  clear hb
  have Rq := Lib.hid hr
  have Pq := Lib.hid hp
  clear hr hp
  go_wp2_with fail
  refine (build_any _ _ _ l none 0 0 [] 2 _ ⟨HR.out, nA.out⟩ ⟨SpRow.none_ _ _, fun _ => rfl⟩ (by omega) (by omega) (.inr (.inr rfl))).mono ?_
  rintro e w13 ⟨Ay, ny, cy, oy, rfl, hr, hy, hp, hb⟩
  replace HR := Lib.hid (HR.out.kept hb)
  replace HQ := Lib.hid (HQ.out.kept hb)
  replace Rn := Lib.hid (Rn.out.kept hb)
  replace Ra := Lib.hid (Ra.out.kept hb)
  replace Ru := Lib.hid (Ru.out.kept hb)
  replace Rv := Lib.hid (Rv.out.kept hb)
  replace Rm := Lib.hid (Rm.out.kept hb)
  replace Rx := Lib.hid (Rx.out.kept hb)
  replace Rq := Lib.hid (Rq.out.kept hb)
  replace HB := Lib.hid (HB.out.trans (hb.mono HB.out.size))
  clear hb
  have Ry := Lib.hid hr
  have Py := Lib.hid hp
  clear hr hp
  go_wp2_with fail
  refine (refSameL_any _ _ _ oq _ _ _ oy _ Rq.out Ry.out (by omega) (like_not Pq.out Py.out) Pq.out.1.rights Py.out.1.rights).mono ?_
  rintro e w14 ⟨rfl, hb⟩
  replace HR := Lib.hid (HR.out.kept hb)
  replace HQ := Lib.hid (HQ.out.kept hb)
  replace Rn := Lib.hid (Rn.out.kept hb)
  replace Ra := Lib.hid (Ra.out.kept hb)
  replace Ru := Lib.hid (Ru.out.kept hb)
  replace Rv := Lib.hid (Rv.out.kept hb)
  replace Rm := Lib.hid (Rm.out.kept hb)
  replace Rx := Lib.hid (Rx.out.kept hb)
  replace Rq := Lib.hid (Rq.out.kept hb)
  replace Ry := Lib.hid (Ry.out.kept hb)
  replace HB := Lib.hid (HB.out.trans (hb.mono HB.out.size))
  clear hb
  go_wp2
  go_ret
  exact ⟨rfl, HB.out⟩
end Go.Proofs.YtdbdeadcffpbfaaGreatDoor.Span
