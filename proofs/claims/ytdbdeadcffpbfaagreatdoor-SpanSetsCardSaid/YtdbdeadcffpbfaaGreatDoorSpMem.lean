/-
  Cuts, spans and edges as memory holds them: where their versions' rows lie; blocks of six, seven and twelve cells; slices that read as lists of them. Conditions: as each states.
-/
import Derived.Test.YtdbdeadcffpbfaaGreatDoorPrCmp
import Derived.Test.YtdbdeadcffpbfaaGreatDoorSpSweep
namespace Go.Proofs.YtdbdeadcffpbfaaGreatDoor.Span
open Go.RowKit Num Ident Semver Prec

/-- A cut in memory: beside its kind and version where the rows lie. -/
structure RCut where
  kind : Int
  v : Ver
  A : Option Addr
  c : Nat
  B : Option Addr
  d : Nat
def RCut.cut (r : RCut) : Cut := ⟨r.kind, r.v⟩
/-- A span in memory. -/
structure RSp where
  lo : RCut
  hi : RCut
def RSp.sp (s : RSp) : Sp := ⟨s.lo.cut, s.hi.cut⟩
/-- An edge in memory. -/
structure REdge where
  cut : RCut
  step : Int
def REdge.edge (e : REdge) : Edge := ⟨e.cut.cut, e.step⟩
def rlow : RCut := ⟨0, noVer, none, 0, none, 0⟩
def rhigh : RCut := ⟨3, noVer, none, 0, none, 0⟩
instance : Inhabited RCut := ⟨rlow⟩
instance : Inhabited RSp := ⟨⟨rlow, rlow⟩⟩
instance : Inhabited REdge := ⟨⟨rlow, 0⟩⟩
def RCut.vals (r : RCut) : List Value := [.int .i64 r.kind, .int .u64 (r.v.a : Int), .int .u64 (r.v.b : Int), .int .u64 (r.v.c : Int), .slice r.A r.v.pre.length r.c, .slice r.B r.v.build.length r.d]
def RSp.vals (s : RSp) : List Value := [.int .i64 s.lo.kind, .int .u64 (s.lo.v.a : Int), .int .u64 (s.lo.v.b : Int), .int .u64 (s.lo.v.c : Int), .slice s.lo.A s.lo.v.pre.length s.lo.c, .slice s.lo.B s.lo.v.build.length s.lo.d, .int .i64 s.hi.kind, .int .u64 (s.hi.v.a : Int), .int .u64 (s.hi.v.b : Int), .int .u64 (s.hi.v.c : Int), .slice s.hi.A s.hi.v.pre.length s.hi.c, .slice s.hi.B s.hi.v.build.length s.hi.d]
def REdge.vals (e : REdge) : List Value := [.int .i64 e.cut.kind, .int .u64 (e.cut.v.a : Int), .int .u64 (e.cut.v.b : Int), .int .u64 (e.cut.v.c : Int), .slice e.cut.A e.cut.v.pre.length e.cut.c, .slice e.cut.B e.cut.v.build.length e.cut.d, .int .i64 e.step]
/-- The rows of a cut's version lie where it says, and have lengths that the form allows. -/
structure Lies (w : World) (r : RCut) : Prop where
  pre : SRow w r.A r.v.pre.length r.v.pre
  build : SRow w r.B r.v.build.length r.v.build
  fpre : Fit r.v.pre
  fbuild : Fit r.v.build
  npre : r.A = none → r.c = 0
theorem Lies.kept {w w' : World} {r : RCut} (h : Lies w r) (hb : Below w.heap.size w w') : Lies w' r := ⟨h.pre.kept hb, h.build.kept hb, h.fpre, h.fbuild, h.npre⟩
theorem Lies.low (w : World) : Lies w rlow := ⟨SRow.none_ _ _, SRow.none_ _ _, Fit.nil, Fit.nil, fun _ => rfl⟩
theorem Lies.high (w : World) : Lies w rhigh := ⟨SRow.none_ _ _, SRow.none_ _ _, Fit.nil, Fit.nil, fun _ => rfl⟩
structure LiesS (w : World) (s : RSp) : Prop where
  lo : Lies w s.lo
  hi : Lies w s.hi
theorem LiesS.kept {w w' : World} {s : RSp} (h : LiesS w s) (hb : Below w.heap.size w w') : LiesS w' s := ⟨h.lo.kept hb, h.hi.kept hb⟩
theorem vals_one (r : RCut) : ∀ u ∈ r.vals, u.oneCell' = true := by
  intro u hu; simp only [RCut.vals, List.mem_cons, List.mem_nil_iff, or_false] at hu
  rcases hu with rfl | rfl | rfl | rfl | rfl | rfl <;> rfl
theorem svals_eq (s : RSp) : s.vals = s.lo.vals ++ s.hi.vals := rfl
theorem evals_eq (e : REdge) : e.vals = e.cut.vals ++ [.int .i64 e.step] := rfl
theorem svals_one (s : RSp) : ∀ u ∈ s.vals, u.oneCell' = true := by
  intro u hu; rw [svals_eq, List.mem_append] at hu
  exact hu.elim (vals_one _ u) (vals_one _ u)
theorem evals_one (e : REdge) : ∀ u ∈ e.vals, u.oneCell' = true := by
  intro u hu; rw [evals_eq, List.mem_append] at hu
  rcases hu with h | h
  · exact vals_one _ u h
  · rw [List.mem_singleton] at h; subst h; rfl

/-- A block of 6 cells, none frozen. -/
def At6B (W : World) (b : Nat) (u0 u1 u2 u3 u4 u5 : Value) : Prop := b < W.heap.size ∧ (∀ o, W.frozen? ⟨b, o, none⟩ = false) ∧ W.cell? ⟨b, 0, none⟩ = some u0 ∧ W.cell? ⟨b, 1, none⟩ = some u1 ∧ W.cell? ⟨b, 2, none⟩ = some u2 ∧ W.cell? ⟨b, 3, none⟩ = some u3 ∧ W.cell? ⟨b, 4, none⟩ = some u4 ∧ W.cell? ⟨b, 5, none⟩ = some u5
theorem At6B.new (w : World) (t : TypeId) (u0 u1 u2 u3 u4 u5 : Value) : At6B (w.alloc (.cells #[u0, u1, u2, u3, u4, u5] t)) w.heap.size u0 u1 u2 u3 u4 u5 := by
  unfold At6B
  refine ⟨by simp, fun o => by simp [go_sem], ?_, ?_, ?_, ?_, ?_, ?_⟩ <;> simp [go_sem]
theorem At6B.kept {W W' : World} {b B : Nat} {u0 u1 u2 u3 u4 u5 : Value} (h : At6B W b u0 u1 u2 u3 u4 u5) (hb : Below B W W') (hB : b < B) : At6B W' b u0 u1 u2 u3 u4 u5 := by
  obtain ⟨h1, h2, c0, c1, c2, c3, c4, c5⟩ := h
  exact ⟨Nat.lt_of_lt_of_le h1 hb.size, fun o => (hb.frozen (p := ⟨b, o, none⟩) hB).trans (h2 o), (hb.cell (p := ⟨b, 0, none⟩) hB).trans c0, (hb.cell (p := ⟨b, 1, none⟩) hB).trans c1, (hb.cell (p := ⟨b, 2, none⟩) hB).trans c2, (hb.cell (p := ⟨b, 3, none⟩) hB).trans c3, (hb.cell (p := ⟨b, 4, none⟩) hB).trans c4, (hb.cell (p := ⟨b, 5, none⟩) hB).trans c5⟩
/-- A block of 7 cells, none frozen. -/
def At7B (W : World) (b : Nat) (u0 u1 u2 u3 u4 u5 u6 : Value) : Prop := b < W.heap.size ∧ (∀ o, W.frozen? ⟨b, o, none⟩ = false) ∧ W.cell? ⟨b, 0, none⟩ = some u0 ∧ W.cell? ⟨b, 1, none⟩ = some u1 ∧ W.cell? ⟨b, 2, none⟩ = some u2 ∧ W.cell? ⟨b, 3, none⟩ = some u3 ∧ W.cell? ⟨b, 4, none⟩ = some u4 ∧ W.cell? ⟨b, 5, none⟩ = some u5 ∧ W.cell? ⟨b, 6, none⟩ = some u6
theorem At7B.new (w : World) (t : TypeId) (u0 u1 u2 u3 u4 u5 u6 : Value) : At7B (w.alloc (.cells #[u0, u1, u2, u3, u4, u5, u6] t)) w.heap.size u0 u1 u2 u3 u4 u5 u6 := by
  unfold At7B
  refine ⟨by simp, fun o => by simp [go_sem], ?_, ?_, ?_, ?_, ?_, ?_, ?_⟩ <;> simp [go_sem]
theorem At7B.kept {W W' : World} {b B : Nat} {u0 u1 u2 u3 u4 u5 u6 : Value} (h : At7B W b u0 u1 u2 u3 u4 u5 u6) (hb : Below B W W') (hB : b < B) : At7B W' b u0 u1 u2 u3 u4 u5 u6 := by
  obtain ⟨h1, h2, c0, c1, c2, c3, c4, c5, c6⟩ := h
  exact ⟨Nat.lt_of_lt_of_le h1 hb.size, fun o => (hb.frozen (p := ⟨b, o, none⟩) hB).trans (h2 o), (hb.cell (p := ⟨b, 0, none⟩) hB).trans c0, (hb.cell (p := ⟨b, 1, none⟩) hB).trans c1, (hb.cell (p := ⟨b, 2, none⟩) hB).trans c2, (hb.cell (p := ⟨b, 3, none⟩) hB).trans c3, (hb.cell (p := ⟨b, 4, none⟩) hB).trans c4, (hb.cell (p := ⟨b, 5, none⟩) hB).trans c5, (hb.cell (p := ⟨b, 6, none⟩) hB).trans c6⟩
/-- A block of 12 cells, none frozen. -/
def At12B (W : World) (b : Nat) (u0 u1 u2 u3 u4 u5 u6 u7 u8 u9 u10 u11 : Value) : Prop := b < W.heap.size ∧ (∀ o, W.frozen? ⟨b, o, none⟩ = false) ∧ W.cell? ⟨b, 0, none⟩ = some u0 ∧ W.cell? ⟨b, 1, none⟩ = some u1 ∧ W.cell? ⟨b, 2, none⟩ = some u2 ∧ W.cell? ⟨b, 3, none⟩ = some u3 ∧ W.cell? ⟨b, 4, none⟩ = some u4 ∧ W.cell? ⟨b, 5, none⟩ = some u5 ∧ W.cell? ⟨b, 6, none⟩ = some u6 ∧ W.cell? ⟨b, 7, none⟩ = some u7 ∧ W.cell? ⟨b, 8, none⟩ = some u8 ∧ W.cell? ⟨b, 9, none⟩ = some u9 ∧ W.cell? ⟨b, 10, none⟩ = some u10 ∧ W.cell? ⟨b, 11, none⟩ = some u11
theorem At12B.new (w : World) (t : TypeId) (u0 u1 u2 u3 u4 u5 u6 u7 u8 u9 u10 u11 : Value) : At12B (w.alloc (.cells #[u0, u1, u2, u3, u4, u5, u6, u7, u8, u9, u10, u11] t)) w.heap.size u0 u1 u2 u3 u4 u5 u6 u7 u8 u9 u10 u11 := by
  unfold At12B
  refine ⟨by simp, fun o => by simp [go_sem], ?_, ?_, ?_, ?_, ?_, ?_, ?_, ?_, ?_, ?_, ?_, ?_⟩ <;> simp [go_sem]
theorem At12B.kept {W W' : World} {b B : Nat} {u0 u1 u2 u3 u4 u5 u6 u7 u8 u9 u10 u11 : Value} (h : At12B W b u0 u1 u2 u3 u4 u5 u6 u7 u8 u9 u10 u11) (hb : Below B W W') (hB : b < B) : At12B W' b u0 u1 u2 u3 u4 u5 u6 u7 u8 u9 u10 u11 := by
  obtain ⟨h1, h2, c0, c1, c2, c3, c4, c5, c6, c7, c8, c9, c10, c11⟩ := h
  exact ⟨Nat.lt_of_lt_of_le h1 hb.size, fun o => (hb.frozen (p := ⟨b, o, none⟩) hB).trans (h2 o), (hb.cell (p := ⟨b, 0, none⟩) hB).trans c0, (hb.cell (p := ⟨b, 1, none⟩) hB).trans c1, (hb.cell (p := ⟨b, 2, none⟩) hB).trans c2, (hb.cell (p := ⟨b, 3, none⟩) hB).trans c3, (hb.cell (p := ⟨b, 4, none⟩) hB).trans c4, (hb.cell (p := ⟨b, 5, none⟩) hB).trans c5, (hb.cell (p := ⟨b, 6, none⟩) hB).trans c6, (hb.cell (p := ⟨b, 7, none⟩) hB).trans c7, (hb.cell (p := ⟨b, 8, none⟩) hB).trans c8, (hb.cell (p := ⟨b, 9, none⟩) hB).trans c9, (hb.cell (p := ⟨b, 10, none⟩) hB).trans c10, (hb.cell (p := ⟨b, 11, none⟩) hB).trans c11⟩

/-- The slice of n spans at A reads as the list l; a slice without spans may lie anywhere. -/
def SpRow (w : World) (A : Option Addr) (n : Nat) (l : List RSp) : Prop :=
  l.length = n ∧ (∀ s ∈ l, LiesS w s) ∧ (0 < n → ∃ b o, A = some ⟨b, o, none⟩ ∧ b < w.heap.size ∧ ∀ j, j < n → ∀ i v, (l.getD j default).vals[i]? = some v → w.cell? ⟨b, o + j * 12 + i, none⟩ = some v)
theorem SpRow.none_ (w : World) (A : Option Addr) : SpRow w A 0 [] := ⟨rfl, (fun s h => by cases h), fun h => by omega⟩
theorem SpRow.kept {w w' : World} {A : Option Addr} {n : Nat} {l : List RSp} (h : SpRow w A n l) (hb : Below w.heap.size w w') : SpRow w' A n l := by
  refine ⟨h.1, fun s hs => (h.2.1 s hs).kept hb, fun h0 => ?_⟩
  obtain ⟨b, o, e, hlt, hc⟩ := h.2.2 h0
  exact ⟨b, o, e, Nat.lt_of_lt_of_le hlt hb.size, fun j hj i v hv => (hb.cell (p := ⟨b, o + j * 12 + i, none⟩) hlt).trans (hc j hj i v hv)⟩
theorem getS_mem {l : List RSp} {k : Nat} (h : k < l.length) : l.getD k default ∈ l := by simp [List.getD, List.getElem?_eq_getElem h]
theorem SpRow.lies {w : World} {A : Option Addr} {n : Nat} {l : List RSp} (h : SpRow w A n l) {k : Nat} (hk : k < n) : LiesS w (l.getD k default) := h.2.1 _ (getS_mem (by rw [h.1]; exact hk))
/-- The twelve cells of the k-th span. -/
theorem SpRow.cells {w : World} {b o n : Nat} {l : List RSp} (h : ∀ j, j < n → ∀ i v, (l.getD j default).vals[i]? = some v → w.cell? ⟨b, o + j * 12 + i, none⟩ = some v) {k : Nat} (hk : k < n) :
    w.cell? ⟨b, o + k * 12, none⟩ = some (.int .i64 (l.getD k default).lo.kind) ∧ w.cell? ⟨b, o + k * 12 + 1, none⟩ = some (.int .u64 ((l.getD k default).lo.v.a : Int)) ∧ w.cell? ⟨b, o + k * 12 + 2, none⟩ = some (.int .u64 ((l.getD k default).lo.v.b : Int)) ∧ w.cell? ⟨b, o + k * 12 + 3, none⟩ = some (.int .u64 ((l.getD k default).lo.v.c : Int)) ∧ w.cell? ⟨b, o + k * 12 + 4, none⟩ = some (.slice (l.getD k default).lo.A (l.getD k default).lo.v.pre.length (l.getD k default).lo.c) ∧ w.cell? ⟨b, o + k * 12 + 5, none⟩ = some (.slice (l.getD k default).lo.B (l.getD k default).lo.v.build.length (l.getD k default).lo.d) ∧ w.cell? ⟨b, o + k * 12 + 6, none⟩ = some (.int .i64 (l.getD k default).hi.kind) ∧ w.cell? ⟨b, o + k * 12 + 7, none⟩ = some (.int .u64 ((l.getD k default).hi.v.a : Int)) ∧ w.cell? ⟨b, o + k * 12 + 8, none⟩ = some (.int .u64 ((l.getD k default).hi.v.b : Int)) ∧ w.cell? ⟨b, o + k * 12 + 9, none⟩ = some (.int .u64 ((l.getD k default).hi.v.c : Int)) ∧ w.cell? ⟨b, o + k * 12 + 10, none⟩ = some (.slice (l.getD k default).hi.A (l.getD k default).hi.v.pre.length (l.getD k default).hi.c) ∧ w.cell? ⟨b, o + k * 12 + 11, none⟩ = some (.slice (l.getD k default).hi.B (l.getD k default).hi.v.build.length (l.getD k default).hi.d) :=
  ⟨h k hk 0 _ rfl, h k hk 1 _ rfl, h k hk 2 _ rfl, h k hk 3 _ rfl, h k hk 4 _ rfl, h k hk 5 _ rfl, h k hk 6 _ rfl, h k hk 7 _ rfl, h k hk 8 _ rfl, h k hk 9 _ rfl, h k hk 10 _ rfl, h k hk 11 _ rfl⟩

/-- The slice of n cuts at A reads as the list l. -/
def CutRow (w : World) (A : Option Addr) (n : Nat) (l : List RCut) : Prop :=
  l.length = n ∧ (∀ r ∈ l, Lies w r) ∧ (0 < n → ∃ b o, A = some ⟨b, o, none⟩ ∧ b < w.heap.size ∧ ∀ j, j < n → ∀ i v, (l.getD j default).vals[i]? = some v → w.cell? ⟨b, o + j * 6 + i, none⟩ = some v)
theorem CutRow.kept {w w' : World} {A : Option Addr} {n : Nat} {l : List RCut} (h : CutRow w A n l) (hb : Below w.heap.size w w') : CutRow w' A n l := by
  refine ⟨h.1, fun s hs => (h.2.1 s hs).kept hb, fun h0 => ?_⟩
  obtain ⟨b, o, e, hlt, hc⟩ := h.2.2 h0
  exact ⟨b, o, e, Nat.lt_of_lt_of_le hlt hb.size, fun j hj i v hv => (hb.cell (p := ⟨b, o + j * 6 + i, none⟩) hlt).trans (hc j hj i v hv)⟩
/-- The slice of n edges at A reads as the list l. -/
def EdRow (w : World) (A : Option Addr) (n : Nat) (l : List REdge) : Prop :=
  l.length = n ∧ (∀ e ∈ l, Lies w e.cut) ∧ (0 < n → ∃ b o, A = some ⟨b, o, none⟩ ∧ b < w.heap.size ∧ ∀ j, j < n → ∀ i v, (l.getD j default).vals[i]? = some v → w.cell? ⟨b, o + j * 7 + i, none⟩ = some v)
theorem EdRow.kept {w w' : World} {A : Option Addr} {n : Nat} {l : List REdge} (h : EdRow w A n l) (hb : Below w.heap.size w w') : EdRow w' A n l := by
  refine ⟨h.1, fun s hs => (h.2.1 s hs).kept hb, fun h0 => ?_⟩
  obtain ⟨b, o, e, hlt, hc⟩ := h.2.2 h0
  exact ⟨b, o, e, Nat.lt_of_lt_of_le hlt hb.size, fun j hj i v hv => (hb.cell (p := ⟨b, o + j * 7 + i, none⟩) hlt).trans (hc j hj i v hv)⟩
end Go.Proofs.YtdbdeadcffpbfaaGreatDoor.Span
