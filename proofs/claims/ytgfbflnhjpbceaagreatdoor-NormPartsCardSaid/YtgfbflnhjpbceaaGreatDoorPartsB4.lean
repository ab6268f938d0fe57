/-
  The sweep over sorted edges (span.sweep). Conditions: the call owns the slice of edges, their cuts are right and lie in older memory, their steps are small; the question is a small number's.
  The sweep over sorted edges (span.sweep). Conditions: the call owns the slice of edges, their cuts are right and lie in older memory, their steps are small; the question is a small number's.
  Two slices of edges one behind the other, in new memory (slices.Concat, slices.Grow). Conditions: the slices read as the lists of edges; there aren't too many.
  The normal sets of spans, of what is not in one (span.Normal, Not); what the sets of what is in one or both, in both, are. Conditions: the slices read as the lists of spans; there aren't too many.
  Which versions a set has (span.Has and its closure). Conditions: the slice reads as the list of spans, the version's rows lie where it says, all of lengths that the form allows.
  What the laws on sets come to, plainly: a right version is in a set just if what stands behind its first cut is; what is normal stays; what isn't in what isn't in it is the set; a set and the rest are all. Plain facts.
  A right version is in a union, a meet, what is left out, just as it is in the sets: plain facts.
  Ranges as sets and sets as ranges, as plain lists: what a range has, cut by cut; of each set there is just one normal one, sign by sign; a set's plain range, which is right and has just the set. Plain facts.
-/
import Derived.Test.YtgfbflnhjpbceaaGreatDoorPartsB3
import Derived.StillTailTactics
import Derived.Deep.RegionHeld3
import Derived.Test.YtgfbflnhjpbceaaGreatDoorShelfGrow
import Derived.Test.YtgfbflnhjpbceaaGreatDoorShelfHas
import Derived.RegionTactic
import Derived.ChangeAlike
namespace Go.Proofs.YtgfbflnhjpbceaaGreatDoor.Span
open Go.RowKit Num Ident Semver Prec

/-- What stays the same behind the sort. -/
structure SwFix (w1 : World) (re0 : List REdge) (A : Option Addr) (n mb : Nat) (m : Int) (ws : World) (re : List REdge) : Prop where
  perm : re.Perm re0
  sorted : re.Pairwise fun x y => stand x.cut.cut y.cut.cut ≤ 0
  len : re.length = n
  small : n ≤ 100000
  lies : ∀ e ∈ re, Lies w1 e.cut
  right : ∀ e ∈ re, right e.cut.cut = true
  step : ∀ e ∈ re, -10 ≤ e.step ∧ e.step ≤ 10
  cells : 0 < n → ∃ g, A = some ⟨g, 0, none⟩ ∧ g < ws.heap.size ∧ ∀ j, j < n → ∀ i u, (re.getD j default).vals[i]? = some u → ws.cell? ⟨g, 0 + j * 7 + i, none⟩ = some u
  mbl : mb < ws.heap.size
  mbc : ws.cell? ⟨mb, 0, none⟩ = some (.int .i64 m)
  old : Below w1.heap.size w1 ws
/-- What holds at both labels. -/
structure SwAt (w1 ws : World) (n i : Nat) (T : Int) (set : Value) (out : List RSp) (lo : RCut) (W : World) : Prop where
  bel : Below ws.heap.size ws W
  lob : At6B W ws.heap.size (.int .i64 lo.kind) (.int .u64 (lo.v.a : Int)) (.int .u64 (lo.v.b : Int)) (.int .u64 (lo.v.c : Int)) (.slice lo.A lo.v.pre.length lo.c) (.slice lo.B lo.v.build.length lo.d)
  own : W.ownsRow (ws.heap.size + 1) 43 12 set out.length (out.flatMap RSp.vals)
  cuts : ∀ s ∈ out, OwnC W (ws.heap.size + 1) s.lo ∧ OwnC W (ws.heap.size + 1) s.hi
  lies : Lies w1 lo
  bare : bare lo.v = lo.v
  few : lo.v.pre.length ≤ 16
  len : out.length ≤ i
  lo10 : -(10 * (i : Int)) ≤ T
  hi10 : T ≤ 10 * (i : Int)
  ile : i ≤ n
theorem own_set6 {w : World} {B : Nat} {e : TypeId} {size : Nat} {v : Value} {n : Nat} {xs : List Value} (h : w.ownsRow B e size v n xs) {b : Nat} (hb : b < B) (v0 v1 v2 v3 v4 v5 : Value) : (Span.set6 w b v0 v1 v2 v3 v4 v5).ownsRow B e size v n xs :=
  ownsRow_setCell_below (ownsRow_setCell_below (ownsRow_setCell_below (ownsRow_setCell_below (ownsRow_setCell_below (ownsRow_setCell_below h (a := ⟨b, 0, none⟩) hb v0) (a := ⟨b, 1, none⟩) hb v1) (a := ⟨b, 2, none⟩) hb v2) (a := ⟨b, 3, none⟩) hb v3) (a := ⟨b, 4, none⟩) hb v4) (a := ⟨b, 5, none⟩) hb v5
theorem SwAt.kept {w1 ws : World} {n i : Nat} {T : Int} {set : Value} {out : List RSp} {lo : RCut} {W W' : World} (h : SwAt w1 ws n i T set out lo W) (hb : Below W.heap.size W W') : SwAt w1 ws n i T set out lo W' :=
  { h with bel := h.bel.trans (hb.mono h.bel.size), lob := h.lob.kept hb h.lob.1, own := own_below h.own hb, cuts := fun s hs => ⟨(h.cuts s hs).1.kept hb, (h.cuts s hs).2.kept hb⟩ }
theorem At6B.drew {W : World} {b : Nat} {u0 u1 u2 u3 u4 u5 : Value} (h : At6B W b u0 u1 u2 u3 u4 u5) : At6B W.drew b u0 u1 u2 u3 u4 u5 := h
theorem region_append_sp {yl : Nat → Option Bool} {o : Oper} {a : Act} {w w' : World} {K : Act → World → Prop} {Q : Exit → Act → World → Prop} {v v' : Value} {y : Value} (hw : Region.wanted o yl = true) (s x : Operand)
    (ho : o.op = .call { callee := .builtin .append, args := #[s, x], argTypes := #[31, 31] }) (hs : a.eval s = v) (hx : a.eval x = y)
    (hrun : (Builtin.append_ #[31, 31] o.type #[v, y]).run Tryz.prog w = .ok v' w') (h : K (a.put o.dst v') w') : if Region.wanted o yl = true then Oper.wp Tryz.prog o a w K Q else K (a.put o.dst undef) w := by
  rw [if_pos hw]
  unfold Oper.wp execOp
  simp only [ho, resolve, invoke, builtin, Sem.run_bind, Sem.run_pure, Result.andThen_ok, List.map_toArray, List.map_cons, List.map_nil, hs, hx, hrun]
  exact h
/-- lo is set to the cut. -/
theorem SwAt.setlo {w1 ws : World} {n i : Nat} {T : Int} {set : Value} {out : List RSp} {lo : RCut} {W : World} (h : SwAt w1 ws n i T set out lo W) (cu : RCut) (hl : Lies w1 cu) (hr : Span.right cu.cut = true) : SwAt w1 ws n i T set out cu (Span.set6 W ws.heap.size (.int .i64 cu.kind) (.int .u64 (cu.v.a : Int)) (.int .u64 (cu.v.b : Int)) (.int .u64 (cu.v.c : Int)) (.slice cu.A cu.v.pre.length cu.c) (.slice cu.B cu.v.build.length cu.d)) :=
  { h with bel := below_set6 h.bel (Nat.le_refl _) _ _ _ _ _ _, lob := h.lob.set6 _ _ _ _ _ _, own := own_set6 h.own (Nat.lt_succ_self _) _ _ _ _ _ _, cuts := fun s hs => ⟨(h.cuts s hs).1.set6 (Nat.lt_succ_self _) _ _ _ _ _ _, (h.cuts s hs).2.set6 (Nat.lt_succ_self _) _ _ _ _ _ _⟩, lies := hl, bare := right_bare hr, few := (right_few hr).1 }
theorem SwAt.step {w1 ws : World} {n i : Nat} {T : Int} {set : Value} {out : List RSp} {lo : RCut} {W : World} (h : SwAt w1 ws n i T set out lo W) {d : Int} (h1 : -10 ≤ d) (h2 : d ≤ 10) (hi : i < n) : SwAt w1 ws n (i + 1) (T + d) set out lo W :=
  { h with len := Nat.le_succ_of_le h.len, lo10 := by have := h.lo10; omega, hi10 := by have := h.hi10; omega, ile := hi }
/-- A block of a cut. -/
def Tag (W : World) (b : Nat) : Prop := ∃ C, W.heap[b]? = some (.cells C 41 (0, 0))
theorem Tag.kept {W W' : World} {b B : Nat} (h : Tag W b) (hb : Below B W W') (hB : b < B) : Tag W' b := by
  obtain ⟨C, hC⟩ := h
  exact ⟨C, (hb.block b hB).trans hC⟩
theorem Tag.new (W : World) (C : Array Value) : Tag (W.alloc (.cells C 41)) W.heap.size := ⟨C, by show (W.heap.push _)[W.heap.size]? = _; simp⟩
theorem Tag.apart {W : World} {b B : Nat} {set : Value} {n : Nat} {xs : List Value} (h : Tag W b) (ho : W.ownsRow B 43 12 set n xs) : some b ≠ set.ownBlock := by
  obtain ⟨C, hC⟩ := h
  rcases ho.2 with ⟨rfl, _⟩ | ⟨g, cap, cur, rfl, _, hg, _⟩
  · intro h; cases h
  · intro h
    have e : b = g := by simpa [Value.ownBlock] using h
    subst e
    rw [hC] at hg
    injection hg with hg
    injection hg with _ h
    exact absurd h (by decide)
theorem At6B.grown {w w' : World} {row : Option Nat} {b : Nat} {u0 u1 u2 u3 u4 u5 : Value} (h : At6B w b u0 u1 u2 u3 u4 u5) (hg : w.grownBy w' row) (hne : some b ≠ row) : At6B w' b u0 u1 u2 u3 u4 u5 := by
  obtain ⟨h1, h2, c0, c1, c2, c3, c4, c5⟩ := h
  have k : w'.heap[b]? = w.heap[b]? := hg.block b h1 hne
  exact ⟨Nat.lt_of_lt_of_le h1 hg.size, fun o => (World.frozen?_of_block (w := w) (a := ⟨b, o, none⟩) k).trans (h2 o), (World.cell?_of_block (w := w) (a := ⟨b, 0, none⟩) k).trans c0, (World.cell?_of_block (w := w) (a := ⟨b, 1, none⟩) k).trans c1, (World.cell?_of_block (w := w) (a := ⟨b, 2, none⟩) k).trans c2, (World.cell?_of_block (w := w) (a := ⟨b, 3, none⟩) k).trans c3, (World.cell?_of_block (w := w) (a := ⟨b, 4, none⟩) k).trans c4, (World.cell?_of_block (w := w) (a := ⟨b, 5, none⟩) k).trans c5⟩
/-- A span is put behind the others. -/
theorem SwAt.more {w1 ws : World} {n i : Nat} {T : Int} {set : Value} {out : List RSp} {lo : RCut} {W w7 w8 : World} {v8 : Value} {s : RSp} (h : SwAt w1 ws n i T set out lo W) (hb : Below W.heap.size W w7) (hl : OwnC w7 (ws.heap.size + 1) s.lo) (hh : OwnC w7 (ws.heap.size + 1) s.hi) (hg : w7.grownBy w8 set.ownBlock)
    (ho : w8.ownsRow (ws.heap.size + 1) 43 12 v8 (out.length + 1) ((out ++ [s]).flatMap RSp.vals)) (hi : out.length + 1 ≤ i) : SwAt w1 ws n i T v8 (out ++ [s]) lo w8 :=
  have o7 := own_below h.own hb
  have b8 : Below (ws.heap.size + 1) W w8 := (hb.mono h.lob.1).grown hg (Nat.le_trans h.lob.1 hb.size) (fun k hk => (h.own.lt k hk).1)
  { bel := h.bel.trans (b8.mono (Nat.le_succ _)), lob := h.lob.kept b8 (Nat.lt_succ_self _), own := by rw [List.length_append]; exact ho,
    cuts := fun x hx => by
      rcases List.mem_append.1 hx with hx | hx
      · exact ⟨((h.cuts x hx).1.kept hb).grown o7 hg, ((h.cuts x hx).2.kept hb).grown o7 hg⟩
      · rw [List.mem_singleton] at hx; subst hx; exact ⟨hl.grown o7 hg, hh.grown o7 hg⟩,
    lies := h.lies, bare := h.bare, few := h.few, len := by rw [List.length_append]; exact hi, lo10 := h.lo10, hi10 := h.hi10, ile := h.ile }
def SwJ0 (w1 : World) (re0 : List REdge) (A : Option Addr) (n c mb : Nat) (m : Int) (a' : Act) (W : World) : Prop :=
  ∃ (ws : World) (re : List REdge) (i : Nat) (T : Int) (set : Value) (out : List RSp) (lo : RCut) (u9 u10 u11 u14 u15 u16 u17 u18 u19 u20 u21 u22 u23 u24 u25 u26 u27 u28 u29 u30 u31 u32 u33 u34 u35 u36 u37 u38 u39 u40 u41 u42 u43 u44 u45 u46 u47 u48 u49 u50 u51 u52 u53 u54 u55 u56 u57 u58 u59 u60 u61 u62 u63 u64 u65 u66 u67 u68 u69 u70 u71 u72 u73 : Value), SwFix w1 re0 A n mb m ws re ∧ SwAt w1 ws n i T set out lo W ∧
    sweepL m (re.map REdge.edge) = out.map RSp.sp ++ nextL m T lo.cut ((re.drop i).map REdge.edge) ∧ a' = { tmps := #[.slice A n c, .func (.func 86) #[] #[.pointer (some ⟨mb, 0, none⟩)], undef, undef, .slice none 0 0, set, .pointer (some ⟨ws.heap.size, 0, none⟩), .int .i64 (i : Int), .int .i64 T, u9, u10, u11, .slice A n c, .tuple #[], u14, u15, u16, u17, u18, u19, u20, u21, u22, u23, u24, u25, u26, u27, u28, u29, u30, u31, u32, u33, u34, u35, u36, u37, u38, u39, u40, u41, u42, u43, u44, u45, u46, u47, u48, u49, u50, u51, u52, u53, u54, u55, u56, u57, u58, u59, u60, u61, u62, u63, u64, u65, u66, u67, u68, u69, u70, u71, u72, u73], defers := [] }
def SwJ1 (w1 : World) (re0 : List REdge) (A : Option Addr) (n c mb : Nat) (m : Int) (a' : Act) (W : World) : Prop :=
  ∃ (ws : World) (re : List REdge) (i : Nat) (T : Int) (set : Value) (out : List RSp) (lo : RCut) (bc : Nat) (cu : RCut) (was : Bool) (u11 u14 u15 u16 u17 u18 u19 u20 u21 u22 u23 u24 u25 u26 u27 u28 u29 u30 u31 u32 u33 u34 u35 u36 u37 u38 u39 u40 u41 u42 u43 u44 u45 u46 u47 u48 u49 u50 u51 u52 u53 u54 u55 u56 u57 u58 u59 u60 u61 u62 u63 u64 u65 u66 u67 u68 u69 u70 u71 u72 u73 : Value), SwFix w1 re0 A n mb m ws re ∧ SwAt w1 ws n i T set out lo W ∧ i < n ∧
    At6B W bc (.int .i64 cu.kind) (.int .u64 (cu.v.a : Int)) (.int .u64 (cu.v.b : Int)) (.int .u64 (cu.v.c : Int)) (.slice cu.A cu.v.pre.length cu.c) (.slice cu.B cu.v.build.length cu.d) ∧ Tag W bc ∧ Lies w1 cu ∧ right cu.cut = true ∧ sweepL m (re.map REdge.edge) = out.map RSp.sp ++ go m cu.cut was T lo.cut ((re.drop i).map REdge.edge) ∧ a' = { tmps := #[.slice A n c, .func (.func 86) #[] #[.pointer (some ⟨mb, 0, none⟩)], undef, undef, .slice none 0 0, set, .pointer (some ⟨ws.heap.size, 0, none⟩), .int .i64 (i : Int), .int .i64 T, .pointer (some ⟨bc, 0, none⟩), .bool was, u11, .slice A n c, .tuple #[], u14, u15, u16, u17, u18, u19, u20, u21, u22, u23, u24, u25, u26, u27, u28, u29, u30, u31, u32, u33, u34, u35, u36, u37, u38, u39, u40, u41, u42, u43, u44, u45, u46, u47, u48, u49, u50, u51, u52, u53, u54, u55, u56, u57, u58, u59, u60, u61, u62, u63, u64, u65, u66, u67, u68, u69, u70, u71, u72, u73], defers := [] }
theorem SwJ0.mk {w1 : World} {re0 : List REdge} {A : Option Addr} {n c mb : Nat} {m : Int} {a' : Act} {W : World} (ws : World) (re : List REdge) (i : Nat) (T : Int) (set : Value) (out : List RSp) (lo : RCut) {u9 u10 u11 u14 u15 u16 u17 u18 u19 u20 u21 u22 u23 u24 u25 u26 u27 u28 u29 u30 u31 u32 u33 u34 u35 u36 u37 u38 u39 u40 u41 u42 u43 u44 u45 u46 u47 u48 u49 u50 u51 u52 u53 u54 u55 u56 u57 u58 u59 u60 u61 u62 u63 u64 u65 u66 u67 u68 u69 u70 u71 u72 u73 : Value} (h1 : SwFix w1 re0 A n mb m ws re) (h2 : SwAt w1 ws n i T set out lo W)
    (h3 : sweepL m (re.map REdge.edge) = out.map RSp.sp ++ nextL m T lo.cut ((re.drop i).map REdge.edge)) (h4 : a' = { tmps := #[.slice A n c, .func (.func 86) #[] #[.pointer (some ⟨mb, 0, none⟩)], undef, undef, .slice none 0 0, set, .pointer (some ⟨ws.heap.size, 0, none⟩), .int .i64 (i : Int), .int .i64 T, u9, u10, u11, .slice A n c, .tuple #[], u14, u15, u16, u17, u18, u19, u20, u21, u22, u23, u24, u25, u26, u27, u28, u29, u30, u31, u32, u33, u34, u35, u36, u37, u38, u39, u40, u41, u42, u43, u44, u45, u46, u47, u48, u49, u50, u51, u52, u53, u54, u55, u56, u57, u58, u59, u60, u61, u62, u63, u64, u65, u66, u67, u68, u69, u70, u71, u72, u73], defers := [] }) : SwJ0 w1 re0 A n c mb m a' W :=
  ⟨ws, re, i, T, set, out, lo, u9, u10, u11, u14, u15, u16, u17, u18, u19, u20, u21, u22, u23, u24, u25, u26, u27, u28, u29, u30, u31, u32, u33, u34, u35, u36, u37, u38, u39, u40, u41, u42, u43, u44, u45, u46, u47, u48, u49, u50, u51, u52, u53, u54, u55, u56, u57, u58, u59, u60, u61, u62, u63, u64, u65, u66, u67, u68, u69, u70, u71, u72, u73, h1, h2, h3, h4⟩
theorem SwJ0.out {w1 : World} {re0 : List REdge} {A : Option Addr} {n c mb : Nat} {m : Int} {C : Act → World → Prop} (h : ∀ (W : World) (ws : World) (re : List REdge) (i : Nat) (T : Int) (set : Value) (out : List RSp) (lo : RCut) (u9 u10 u11 u14 u15 u16 u17 u18 u19 u20 u21 u22 u23 u24 u25 u26 u27 u28 u29 u30 u31 u32 u33 u34 u35 u36 u37 u38 u39 u40 u41 u42 u43 u44 u45 u46 u47 u48 u49 u50 u51 u52 u53 u54 u55 u56 u57 u58 u59 u60 u61 u62 u63 u64 u65 u66 u67 u68 u69 u70 u71 u72 u73 : Value), SwFix w1 re0 A n mb m ws re → SwAt w1 ws n i T set out lo W →
    sweepL m (re.map REdge.edge) = out.map RSp.sp ++ nextL m T lo.cut ((re.drop i).map REdge.edge) → C { tmps := #[.slice A n c, .func (.func 86) #[] #[.pointer (some ⟨mb, 0, none⟩)], undef, undef, .slice none 0 0, set, .pointer (some ⟨ws.heap.size, 0, none⟩), .int .i64 (i : Int), .int .i64 T, u9, u10, u11, .slice A n c, .tuple #[], u14, u15, u16, u17, u18, u19, u20, u21, u22, u23, u24, u25, u26, u27, u28, u29, u30, u31, u32, u33, u34, u35, u36, u37, u38, u39, u40, u41, u42, u43, u44, u45, u46, u47, u48, u49, u50, u51, u52, u53, u54, u55, u56, u57, u58, u59, u60, u61, u62, u63, u64, u65, u66, u67, u68, u69, u70, u71, u72, u73], defers := [] } W) : ∀ a' W, SwJ0 w1 re0 A n c mb m a' W → C a' W := by
  rintro a' W ⟨ws, re, i, T, set, out, lo, u9, u10, u11, u14, u15, u16, u17, u18, u19, u20, u21, u22, u23, u24, u25, u26, u27, u28, u29, u30, u31, u32, u33, u34, u35, u36, u37, u38, u39, u40, u41, u42, u43, u44, u45, u46, u47, u48, u49, u50, u51, u52, u53, u54, u55, u56, u57, u58, u59, u60, u61, u62, u63, u64, u65, u66, u67, u68, u69, u70, u71, u72, u73, h1, h2, h3, rfl⟩
  exact h W ws re i T set out lo u9 u10 u11 u14 u15 u16 u17 u18 u19 u20 u21 u22 u23 u24 u25 u26 u27 u28 u29 u30 u31 u32 u33 u34 u35 u36 u37 u38 u39 u40 u41 u42 u43 u44 u45 u46 u47 u48 u49 u50 u51 u52 u53 u54 u55 u56 u57 u58 u59 u60 u61 u62 u63 u64 u65 u66 u67 u68 u69 u70 u71 u72 u73 h1 h2 h3
theorem SwJ1.mk {w1 : World} {re0 : List REdge} {A : Option Addr} {n c mb : Nat} {m : Int} {a' : Act} {W : World} (ws : World) (re : List REdge) (i : Nat) (T : Int) (set : Value) (out : List RSp) (lo : RCut) (bc : Nat) (cu : RCut) (was : Bool) {u11 u14 u15 u16 u17 u18 u19 u20 u21 u22 u23 u24 u25 u26 u27 u28 u29 u30 u31 u32 u33 u34 u35 u36 u37 u38 u39 u40 u41 u42 u43 u44 u45 u46 u47 u48 u49 u50 u51 u52 u53 u54 u55 u56 u57 u58 u59 u60 u61 u62 u63 u64 u65 u66 u67 u68 u69 u70 u71 u72 u73 : Value} (h1 : SwFix w1 re0 A n mb m ws re) (h2 : SwAt w1 ws n i T set out lo W) (h5 : i < n)
    (h6 : At6B W bc (.int .i64 cu.kind) (.int .u64 (cu.v.a : Int)) (.int .u64 (cu.v.b : Int)) (.int .u64 (cu.v.c : Int)) (.slice cu.A cu.v.pre.length cu.c) (.slice cu.B cu.v.build.length cu.d)) (h9 : Tag W bc) (h7 : Lies w1 cu) (h8 : right cu.cut = true) (h3 : sweepL m (re.map REdge.edge) = out.map RSp.sp ++ go m cu.cut was T lo.cut ((re.drop i).map REdge.edge)) (h4 : a' = { tmps := #[.slice A n c, .func (.func 86) #[] #[.pointer (some ⟨mb, 0, none⟩)], undef, undef, .slice none 0 0, set, .pointer (some ⟨ws.heap.size, 0, none⟩), .int .i64 (i : Int), .int .i64 T, .pointer (some ⟨bc, 0, none⟩), .bool was, u11, .slice A n c, .tuple #[], u14, u15, u16, u17, u18, u19, u20, u21, u22, u23, u24, u25, u26, u27, u28, u29, u30, u31, u32, u33, u34, u35, u36, u37, u38, u39, u40, u41, u42, u43, u44, u45, u46, u47, u48, u49, u50, u51, u52, u53, u54, u55, u56, u57, u58, u59, u60, u61, u62, u63, u64, u65, u66, u67, u68, u69, u70, u71, u72, u73], defers := [] }) : SwJ1 w1 re0 A n c mb m a' W :=
  ⟨ws, re, i, T, set, out, lo, bc, cu, was, u11, u14, u15, u16, u17, u18, u19, u20, u21, u22, u23, u24, u25, u26, u27, u28, u29, u30, u31, u32, u33, u34, u35, u36, u37, u38, u39, u40, u41, u42, u43, u44, u45, u46, u47, u48, u49, u50, u51, u52, u53, u54, u55, u56, u57, u58, u59, u60, u61, u62, u63, u64, u65, u66, u67, u68, u69, u70, u71, u72, u73, h1, h2, h5, h6, h9, h7, h8, h3, h4⟩
theorem SwJ1.out {w1 : World} {re0 : List REdge} {A : Option Addr} {n c mb : Nat} {m : Int} {C : Act → World → Prop} (h : ∀ (W : World) (ws : World) (re : List REdge) (i : Nat) (T : Int) (set : Value) (out : List RSp) (lo : RCut) (bc : Nat) (cu : RCut) (was : Bool) (u11 u14 u15 u16 u17 u18 u19 u20 u21 u22 u23 u24 u25 u26 u27 u28 u29 u30 u31 u32 u33 u34 u35 u36 u37 u38 u39 u40 u41 u42 u43 u44 u45 u46 u47 u48 u49 u50 u51 u52 u53 u54 u55 u56 u57 u58 u59 u60 u61 u62 u63 u64 u65 u66 u67 u68 u69 u70 u71 u72 u73 : Value), SwFix w1 re0 A n mb m ws re → SwAt w1 ws n i T set out lo W → i < n →
    At6B W bc (.int .i64 cu.kind) (.int .u64 (cu.v.a : Int)) (.int .u64 (cu.v.b : Int)) (.int .u64 (cu.v.c : Int)) (.slice cu.A cu.v.pre.length cu.c) (.slice cu.B cu.v.build.length cu.d) → Tag W bc → Lies w1 cu → right cu.cut = true → sweepL m (re.map REdge.edge) = out.map RSp.sp ++ go m cu.cut was T lo.cut ((re.drop i).map REdge.edge) → C { tmps := #[.slice A n c, .func (.func 86) #[] #[.pointer (some ⟨mb, 0, none⟩)], undef, undef, .slice none 0 0, set, .pointer (some ⟨ws.heap.size, 0, none⟩), .int .i64 (i : Int), .int .i64 T, .pointer (some ⟨bc, 0, none⟩), .bool was, u11, .slice A n c, .tuple #[], u14, u15, u16, u17, u18, u19, u20, u21, u22, u23, u24, u25, u26, u27, u28, u29, u30, u31, u32, u33, u34, u35, u36, u37, u38, u39, u40, u41, u42, u43, u44, u45, u46, u47, u48, u49, u50, u51, u52, u53, u54, u55, u56, u57, u58, u59, u60, u61, u62, u63, u64, u65, u66, u67, u68, u69, u70, u71, u72, u73], defers := [] } W) : ∀ a' W, SwJ1 w1 re0 A n c mb m a' W → C a' W := by
  rintro a' W ⟨ws, re, i, T, set, out, lo, bc, cu, was, u11, u14, u15, u16, u17, u18, u19, u20, u21, u22, u23, u24, u25, u26, u27, u28, u29, u30, u31, u32, u33, u34, u35, u36, u37, u38, u39, u40, u41, u42, u43, u44, u45, u46, u47, u48, u49, u50, u51, u52, u53, u54, u55, u56, u57, u58, u59, u60, u61, u62, u63, u64, u65, u66, u67, u68, u69, u70, u71, u72, u73, h1, h2, h5, h6, h9, h7, h8, h3, rfl⟩
  exact h W ws re i T set out lo bc cu was u11 u14 u15 u16 u17 u18 u19 u20 u21 u22 u23 u24 u25 u26 u27 u28 u29 u30 u31 u32 u33 u34 u35 u36 u37 u38 u39 u40 u41 u42 u43 u44 u45 u46 u47 u48 u49 u50 u51 u52 u53 u54 u55 u56 u57 u58 u59 u60 u61 u62 u63 u64 u65 u66 u67 u68 u69 u70 u71 u72 u73 h1 h2 h5 h6 h9 h7 h8 h3
def SwM0 (n : Nat) (a' : Act) (_ : World) : Nat := 2 * (n - (intOf (a'.tmps.getD 7 undef)).toNat) + 1
def SwM1 (n : Nat) (a' : Act) (_ : World) : Nat := 2 * (n - (intOf (a'.tmps.getD 7 undef)).toNat)
/-- What the sweep leaves. -/
def SweepPost (w1 : World) (m : Int) (re0 : List REdge) (e : Ending) (w' : World) : Prop :=
  ∃ (B : Nat) (set : Value) (out : List RSp) (re : List REdge), e = .returned set ∧ re.Perm re0 ∧ (re.Pairwise fun x y => stand x.cut.cut y.cut.cut ≤ 0) ∧ out.map RSp.sp = sweepL m (re.map REdge.edge) ∧ w1.heap.size ≤ B ∧ w'.ownsRow B 43 12 set out.length (out.flatMap RSp.vals) ∧
    (∀ s ∈ out, OwnC w' B s.lo ∧ OwnC w' B s.hi) ∧ out.length ≤ re0.length ∧ Below w1.heap.size w1 w'
theorem drop_ed (re : List REdge) (k : Nat) (h : k < re.length) : (re.drop k).map REdge.edge = (re.getD k default).edge :: (re.drop (k + 1)).map REdge.edge := by
  rw [List.drop_eq_getElem_cons h, List.map_cons]; simp only [List.getD, List.getElem?_eq_getElem h, Option.getD_some]
theorem getE_mem {l : List REdge} {k : Nat} (h : k < l.length) : l.getD k default ∈ l := by simp [List.getD, List.getElem?_eq_getElem h]
/-- The seven cells of the k-th edge. -/
theorem ed_cells {w : World} {g n : Nat} {l : List REdge} (h : ∀ j, j < n → ∀ i u, (l.getD j default).vals[i]? = some u → w.cell? ⟨g, 0 + j * 7 + i, none⟩ = some u) {k : Nat} (hk : k < n) :
    w.cell? ⟨g, k * 7, none⟩ = some (.int .i64 (l.getD k default).cut.kind) ∧ w.cell? ⟨g, k * 7 + 1, none⟩ = some (.int .u64 ((l.getD k default).cut.v.a : Int)) ∧ w.cell? ⟨g, k * 7 + 2, none⟩ = some (.int .u64 ((l.getD k default).cut.v.b : Int)) ∧ w.cell? ⟨g, k * 7 + 3, none⟩ = some (.int .u64 ((l.getD k default).cut.v.c : Int)) ∧ w.cell? ⟨g, k * 7 + 4, none⟩ = some (.slice (l.getD k default).cut.A (l.getD k default).cut.v.pre.length (l.getD k default).cut.c) ∧ w.cell? ⟨g, k * 7 + 5, none⟩ = some (.slice (l.getD k default).cut.B (l.getD k default).cut.v.build.length (l.getD k default).cut.d) ∧ w.cell? ⟨g, k * 7 + 6, none⟩ = some (.int .i64 (l.getD k default).step) := by
  have h' := fun i u hu => h k hk i u hu
  simp only [Nat.zero_add] at h'
  exact ⟨h' 0 _ rfl, h' 1 _ rfl, h' 2 _ rfl, h' 3 _ rfl, h' 4 _ rfl, h' 5 _ rfl, h' 6 _ rfl⟩

end Go.Proofs.YtgfbflnhjpbceaaGreatDoor.Span

namespace Go.Proofs.YtgfbflnhjpbceaaGreatDoor.Span
open Go.RowKit Num Ident Semver Prec

set_option maxRecDepth 100000 in
set_option maxHeartbeats 6400000 in
theorem sweep_any (w1 w : World) (base : Nat) (v : Value) (re : List REdge) (mb : Nat) (m : Int) (hown : w.ownsRow base 111 7 v re.length (re.flatMap REdge.vals)) (hl : ∀ e ∈ re, Lies w1 e.cut) (hb : Below w1.heap.size w1 w) (hbase : w1.heap.size ≤ base) (hmb : mb < w.heap.size) (hc : w.cell? ⟨mb, 0, none⟩ = some (.int .i64 m)) (hne : v.ownBlock ≠ some mb)
    (hr : ∀ e ∈ re, right e.cut.cut = true) (hst : ∀ e ∈ re, -10 ≤ e.step ∧ e.step ≤ 10) (hn : re.length ≤ 100000) :
    Calls Tryz.prog 46 #[v, .func (.func 86) #[] #[.pointer (some ⟨mb, 0, none⟩)]] w (SweepPost w1 m re) := by
  have HS := Lib.hid (sort_any w1 w base v re hown hl hb hbase (by omega))
  have HOW := Lib.hid hown
  have HL := Lib.hid hl
  have HB := Lib.hid hb
  have HR := Lib.hid hr
  have HT := Lib.hid hst
  have HC := Lib.hid hc
  have HN := Lib.hid hne
  obtain ⟨A, c, rfl, _, _, _⟩ := own_cells evals_len hown rfl
  clear hown hl hb hr hst hc hne
  go_enter Tryz.func46, Tryz.ntmps46
  go_wp2
  refine wp_two (SwJ0 w1 re A re.length c mb m) (SwJ1 w1 re A re.length c mb m) (SwM0 re.length) (SwM1 re.length) rfl rfl ?_ ?_ ?_
  · intro mm
    refine SwJ1.out ?_
    intro W ws rs i T set out lo bc cu was u11 u14 u15 u16 u17 u18 u19 u20 u21 u22 u23 u24 u25 u26 u27 u28 u29 u30 u31 u32 u33 u34 u35 u36 u37 u38 u39 u40 u41 u42 u43 u44 u45 u46 u47 u48 u49 u50 u51 u52 u53 u54 u55 u56 u57 u58 u59 u60 u61 u62 u63 u64 u65 u66 u67 u68 u69 u70 u71 u72 u73 hfix hat hlt hcb htg hcl0 hcr0 heq hmm
    have hmm2 : mm = 2 * (re.length - i) := by rw [← hmm]; simp [SwM1, intOf]
    clear hmm
    have HF := Lib.hid hfix
    have HA := Lib.hid hat
    have HK := Lib.hid hcb
    have HTG := Lib.hid htg
    have HCL := Lib.hid hcl0
    have HCR := Lib.hid hcr0
    have HE := Lib.hid heq
    have hsm := hfix.small
    have hlo := hat.lo10
    have hhi := hat.hi10
    have hol := hat.len
    have hzl := hat.lob.1
    have hzc := hcb.1
    clear hfix hat heq hcb hcl0 hcr0 htg
    obtain ⟨g, rfl, hgl, hcl⟩ := HF.out.cells (by omega)
    have hgl2 : g < W.heap.size := Nat.lt_of_lt_of_le hgl HA.out.bel.size
    have hml : mb < W.heap.size := Nat.lt_of_lt_of_le HF.out.mbl HA.out.bel.size
    have HMC : Hid (W.cell? ⟨mb, 0, none⟩ = some (.int .i64 m)) := (HA.out.bel.cell (p := ⟨mb, 0, none⟩) HF.out.mbl).trans HF.out.mbc
    have HCE := Lib.hid (fun j hj q u hu => (HA.out.bel.cell (p := ⟨g, 0 + j * 7 + q, none⟩) hgl).trans (hcl j hj q u hu))
    clear hcl
    obtain ⟨z0, z1, z2, z3, z4, z5, z6⟩ := ed_cells (w := W) (g := g) (n := re.length) (l := rs) HCE.out hlt
    have HD := Lib.hid (drop_ed rs i (by rw [HF.out.len]; exact hlt))
    have hst := HF.out.step _ (getE_mem (l := rs) (k := i) (by rw [HF.out.len]; exact hlt))
    obtain ⟨hst1, hst2⟩ := hst
    generalize rs.getD i default = e1 at z0 z1 z2 z3 z4 z5 z6 HD hst1 hst2
    have HE1 : Hid (sweepL m (rs.map REdge.edge) = out.map RSp.sp ++ go m cu.cut was T lo.cut (e1.edge :: (rs.drop (i + 1)).map REdge.edge)) := by rw [← HD.out]; exact HE.out
    clear HE HD
    by_cases hnx : i + 1 < re.length
    · obtain ⟨y0', y1', y2', y3', y4', y5', y6'⟩ := ed_cells (w := W) (g := g) (n := re.length) (l := rs) HCE.out hnx
      have HX2 : Hid (Lies w1 (rs.getD (i + 1) default).cut) := HF.out.lies _ (getE_mem (by rw [HF.out.len]; exact hnx))
      have HD2 := Lib.hid (drop_ed rs (i + 1) (by rw [HF.out.len]; exact hnx))
      generalize rs.getD (i + 1) default = e2 at y0' y1' y2' y3' y4' y5' y6' HX2 HD2
      obtain ⟨_, _, x0, x1, x2, x3, x4, x5⟩ := HK.out
      go_upto_region 10 with (fail)
      have hd1 : decide ((i : Int) + 1 < (re.length : Int)) = true := decide_eq_true (by omega)
      have hd2 : (i : Int) + 1 < (re.length : Int) := by omega
      have hd3 : ((i : Int) + 1).toNat = i + 1 := by omega
      have hd4 : 0 ≤ (i : Int) + 1 := by omega
      go_still_tail 11, (by kernel_rfl)
      change wpList _ _ _ _ _ W.drew
      have HA2 := Lib.hid (HA.out.kept (Below.refl W.heap.size W).drew)
      have HK2 := Lib.hid HK.out.drew
      have HTG2 : Hid (Tag W.drew bc) := HTG.out
      have HMC2 : Hid (W.drew.cell? ⟨mb, 0, none⟩ = some (.int .i64 m)) := HMC.out
      have hw2 : W.drew.heap.size = W.heap.size := rfl
      clear z0 z1 z2 z3 z4 z5 z6 x0 x1 x2 x3 x4 x5 y0' y1' y2' y3' y4' y5' y6' hd1 hd2 hd3 hd4 HCE
      generalize W.drew = W2 at HA2 HK2 HTG2 HMC2 hw2 ⊢
      have HO2 := Lib.hid (HF.out.old.trans (HA2.out.bel.mono HF.out.old.size))
      rw [← hw2] at hml hzl hzc
      clear HA HK HTG HMC hw2 hgl2
      go_wp2_with fail
      refine (stand_any cu e2.cut _ (HCL.out.kept HO2.out) (HX2.out.kept HO2.out)).mono ?_
      rintro e Wc ⟨rfl, hb3⟩
      have HA1 := Lib.hid ((HA2.out.kept hb3).step hst1 hst2 hlt)
      have HK1 := Lib.hid (HK2.out.kept hb3 hzc)
      have HTG1 := Lib.hid (HTG2.out.kept hb3 hzc)
      have HMC1 : Hid (Wc.cell? ⟨mb, 0, none⟩ = some (.int .i64 m)) := (hb3.cell (p := ⟨mb, 0, none⟩) hml).trans HMC2.out
      have HO1 := Lib.hid (HO2.out.trans (hb3.mono HO2.out.size))
      replace hzl := Nat.lt_of_lt_of_le hzl hb3.size
      replace hzc := Nat.lt_of_lt_of_le hzc hb3.size
      clear hb3 HA2 HK2 HTG2 HMC2 HO2 hml
      obtain ⟨st, hst⟩ : ∃ st, stand cu.cut e2.cut.cut = st := ⟨_, rfl⟩
      rw [hst]
      have HST := Lib.hid hst
      clear hst
      by_cases hz : st = 0
      · have HE2 : Hid (sweepL m (rs.map REdge.edge) = out.map RSp.sp ++ go m cu.cut was (T + e1.step) lo.cut ((rs.drop (i + 1)).map REdge.edge)) := by
          unfold Hid
          rw [HE1.out, HD2.out, go_like (show stand cu.cut e2.edge.cut = 0 from HST.out.trans hz)]; rfl
        subst hz
        clear HE1
        go_wp2
        go_step3
        rw [show ((i : Int) + 1) = ((i + 1 : Nat) : Int) from rfl]
        exact .inr ⟨rfl, SwJ1.mk ws rs (i + 1) (T + e1.step) set out lo bc cu was HF.out HA1.out hnx HK1.out HTG1.out HCL.out HCR.out HE2.out rfl, by rw [hmm2]; simp [SwM1, intOf]; omega⟩
      · have hn1 : (st == 0) = false := by simp [hz]
        have HEN : Hid (Ends cu.cut ((rs.drop (i + 1)).map REdge.edge)) := .inr ⟨_, _, HD2.out, fun h => hz (HST.out.symm.trans h)⟩
        clear hz HD2
        go_wp2_with fail
        refine (in_any (T + e1.step) m mb _ HMC1.out).mono ?_
        rintro e w' ⟨rfl, rfl⟩
        clear HMC1
        obtain ⟨_, hf, x0, x1, x2, x3, x4, x5⟩ := HA1.out.lob
        obtain ⟨_, _, y0, y1, y2, y3, y4, y5⟩ := HK1.out
        by_cases hmt : m ≤ T + e1.step
        · rw [decide_eq_true hmt]
          cases was
          · have HE2 : Hid (sweepL m (rs.map REdge.edge) = out.map RSp.sp ++ nextL m (T + e1.step) cu.cut ((rs.drop (i + 1)).map REdge.edge)) := by
              unfold Hid
              rw [HE1.out, go_open_ HEN.out hmt]; rfl
            have HA3 := Lib.hid (HA1.out.setlo cu HCL.out HCR.out)
            clear HE1 hmt
            go_wp2
            go_step3
            rw [show ((i : Int) + 1) = ((i + 1 : Nat) : Int) from rfl]
            exact .inl ⟨rfl, SwJ0.mk ws rs (i + 1) (T + e1.step) set out cu HF.out HA3.out HE2.out rfl, by rw [hmm2]; simp [SwM0, intOf]; omega⟩
          · have HE2 : Hid (sweepL m (rs.map REdge.edge) = out.map RSp.sp ++ nextL m (T + e1.step) lo.cut ((rs.drop (i + 1)).map REdge.edge)) := by
              unfold Hid
              rw [HE1.out, go_same HEN.out (decide_eq_true hmt)]; rfl
            clear HE1 hmt
            go_wp2
            go_step3
            rw [show ((i : Int) + 1) = ((i + 1 : Nat) : Int) from rfl]
            exact .inl ⟨rfl, SwJ0.mk ws rs (i + 1) (T + e1.step) set out lo HF.out HA1.out HE2.out rfl, by rw [hmm2]; simp [SwM0, intOf]; omega⟩
        · rw [decide_eq_false hmt]
          cases was
          · have HE2 : Hid (sweepL m (rs.map REdge.edge) = out.map RSp.sp ++ nextL m (T + e1.step) lo.cut ((rs.drop (i + 1)).map REdge.edge)) := by
              unfold Hid
              rw [HE1.out, go_same HEN.out (decide_eq_false hmt)]; rfl
            clear HE1 hmt
            go_wp2
            go_step3
            rw [show ((i : Int) + 1) = ((i + 1 : Nat) : Int) from rfl]
            exact .inl ⟨rfl, SwJ0.mk ws rs (i + 1) (T + e1.step) set out lo HF.out HA1.out HE2.out rfl, by rw [hmm2]; simp [SwM0, intOf]; omega⟩
          · have HE2 : Hid (sweepL m (rs.map REdge.edge) = out.map RSp.sp ++ (⟨lo.cut, cu.cut⟩ :: nextL m (T + e1.step) lo.cut ((rs.drop (i + 1)).map REdge.edge))) := by
              unfold Hid
              rw [HE1.out, go_shut HEN.out hmt]; rfl
            clear HE1 hmt
            go_upto_region 15 with (fail)
            have B0 := Lib.hid ((Below.refl Wc.heap.size Wc).drew)
            refine wp_region_held_drew (S := fun w' => Below (ws.heap.size + 1) Wc w' ∧ At6B w' bc (.int .i64 cu.kind) (.int .u64 (cu.v.a : Int)) (.int .u64 (cu.v.b : Int)) (.int .u64 (cu.v.c : Int)) (.slice cu.A cu.v.pre.length cu.c) (.slice cu.B cu.v.build.length cu.d)) (by kernel_rfl) ⟨B0.out.mono hzl, HK1.out.drew⟩ (fun hHeld => ?_)
            refine wpAnyH_take (i := 0) (oi := { dst := some 66, op := Op.move (Operand.tmp 5), type := 31, pos := _, after := _, guard := none }) (v := set) rfl (by kernel_rfl) (by kernel_rfl) (by kernel_rfl) (fun _ _ _ h => h) (Or.inl ⟨by rfl, fun w' hS' => by go_simp⟩) (by assumption) ?_
            simp only [Act.put, List.setIfInBounds_toArray, List.set_cons_zero, List.set_cons_succ]
            refine wpAnyH_take (i := 1) (oi := { dst := some 67, op := Op.load 41 (Operand.tmp 6), type := 41, pos := _, after := _, guard := none }) (v := .agg #[.int .i64 lo.kind, .int .u64 (lo.v.a : Int), .int .u64 (lo.v.b : Int), .int .u64 (lo.v.c : Int), .slice lo.A lo.v.pre.length lo.c, .slice lo.B lo.v.build.length lo.d]) rfl (by kernel_rfl) (by kernel_rfl) (by kernel_rfl) (fun _ _ _ h => h) (Or.inl ⟨by rfl, fun w' hS' => by have q0 := (hS'.1.cell (p := ⟨ws.heap.size, 0, none⟩) (Nat.lt_succ_self _)).trans x0; have q1 := (hS'.1.cell (p := ⟨ws.heap.size, 1, none⟩) (Nat.lt_succ_self _)).trans x1; have q2 := (hS'.1.cell (p := ⟨ws.heap.size, 2, none⟩) (Nat.lt_succ_self _)).trans x2; have q3 := (hS'.1.cell (p := ⟨ws.heap.size, 3, none⟩) (Nat.lt_succ_self _)).trans x3; have q4 := (hS'.1.cell (p := ⟨ws.heap.size, 4, none⟩) (Nat.lt_succ_self _)).trans x4; have q5 := (hS'.1.cell (p := ⟨ws.heap.size, 5, none⟩) (Nat.lt_succ_self _)).trans x5; go_simp⟩) (by assumption) ?_
            simp only [Act.put, List.setIfInBounds_toArray, List.set_cons_zero, List.set_cons_succ]
            refine wpAnyH_take (i := 3) (oi := { dst := some 69, op := Op.load 41 (Operand.tmp 9), type := 41, pos := _, after := _, guard := none }) (v := .agg #[.int .i64 cu.kind, .int .u64 (cu.v.a : Int), .int .u64 (cu.v.b : Int), .int .u64 (cu.v.c : Int), .slice cu.A cu.v.pre.length cu.c, .slice cu.B cu.v.build.length cu.d]) rfl (by kernel_rfl) (by kernel_rfl) (by kernel_rfl) (fun _ _ _ h => h) (Or.inl ⟨by rfl, fun w' hS' => by obtain ⟨_, _, _, q0, q1, q2, q3, q4, q5⟩ := hS'; go_simp⟩) (by assumption) ?_
            simp only [Act.put, List.setIfInBounds_toArray, List.set_cons_zero, List.set_cons_succ]
            refine wpAnyH_ready (rs := [2]) (by kernel_rfl) (by simp) ?_
            refine AllReadyH.cons (o := { dst := some 68, op := Op.call { callee := Callee.value (Operand.func 84), args := #[Operand.tmp 67], argTypes := #[41] }, type := 41, pos := _, after := _, guard := none }) rfl (fun K hK => ?_) AllReadyH.nil
            go_simp
            refine (copied_any lo _ ((HA1.out.lies.kept HO1.out).kept B0.out) (Nat.le_trans HA1.out.few (by omega))).mono ?_
            rintro e w5 ⟨lo', rfl, hlo5, ho5, hb5⟩
            have B5 := Lib.hid (B0.out.trans (hb5.mono B0.out.size))
            have O5 := Lib.hid (ho5.mono (Nat.le_trans hzl B0.out.size))
            have E5 := Lib.hid hlo5
            clear ho5 hb5 hlo5 hHeld
            refine hK.out _ _ ⟨B5.out.mono hzl, HK1.out.kept B5.out hzc⟩ (fun hHeld => ?_)
            clear hK K
            try simp only [Act.put, List.setIfInBounds_toArray, List.set_cons_zero, List.set_cons_succ]
            refine wpAnyH_ready (rs := [4]) (by kernel_rfl) (by simp) ?_
            refine AllReadyH.cons (o := { dst := some 70, op := Op.call { callee := Callee.value (Operand.func 84), args := #[Operand.tmp 69], argTypes := #[41] }, type := 41, pos := _, after := _, guard := none }) rfl (fun K hK => ?_) AllReadyH.nil
            go_simp
            refine (copied_any cu _ ((HCL.out.kept HO1.out).kept B5.out) (Nat.le_trans (right_few HCR.out).1 (by omega))).mono ?_
            rintro e w6 ⟨cu', rfl, hcu6, ho6, hb6⟩
            have B6 := Lib.hid (B5.out.trans (hb6.mono B5.out.size))
            have O6 := Lib.hid (ho6.mono (Nat.le_trans hzl B5.out.size))
            have P6 := Lib.hid (O5.out.kept hb6)
            have E6 := Lib.hid hcu6
            clear ho6 hb6 hcu6 hHeld
            refine hK.out _ _ ⟨B6.out.mono hzl, HK1.out.kept B6.out hzc⟩ (fun hHeld => ?_)
            clear hK K
            try simp only [Act.put, List.setIfInBounds_toArray, List.set_cons_zero, List.set_cons_succ]
            refine wpAnyH_take (i := 5) (oi := { dst := some 71, op := Op.build 43 #[(0, Operand.tmp 68), (1, Operand.tmp 70)], type := 43, pos := _, after := _, guard := none }) (v := .agg #[.int .i64 lo'.kind, .int .u64 (lo'.v.a : Int), .int .u64 (lo'.v.b : Int), .int .u64 (lo'.v.c : Int), .slice lo'.A lo'.v.pre.length lo'.c, .slice lo'.B lo'.v.build.length lo'.d, .int .i64 cu'.kind, .int .u64 (cu'.v.a : Int), .int .u64 (cu'.v.b : Int), .int .u64 (cu'.v.c : Int), .slice cu'.A cu'.v.pre.length cu'.c, .slice cu'.B cu'.v.build.length cu'.d]) rfl (by kernel_rfl) (by kernel_rfl) (by kernel_rfl) (fun _ _ _ h => h) (Or.inl ⟨by rfl, fun w' hS' => by go_simp⟩) (by assumption) ?_
            simp only [Act.put, List.setIfInBounds_toArray, List.set_cons_zero, List.set_cons_succ]
            have A7 := Lib.hid ((Below.refl w6.heap.size w6).alloc (Nat.le_refl _) (.cells #[.int .i64 lo'.kind, .int .u64 (lo'.v.a : Int), .int .u64 (lo'.v.b : Int), .int .u64 (lo'.v.c : Int), .slice lo'.A lo'.v.pre.length lo'.c, .slice lo'.B lo'.v.build.length lo'.d, .int .i64 cu'.kind, .int .u64 (cu'.v.a : Int), .int .u64 (cu'.v.b : Int), .int .u64 (cu'.v.c : Int), .slice cu'.A cu'.v.pre.length cu'.c, .slice cu'.B cu'.v.build.length cu'.d] 43))
            have B7 := Lib.hid (B6.out.trans (A7.out.mono B6.out.size))
            refine wpAnyH_ready (rs := [6]) (by kernel_rfl) (by simp) ?_
            refine AllReadyH.cons (o := { dst := some 72, op := Op.buildSlice 31 1 #[(0, Operand.tmp 71)], type := 31, pos := _, after := _, guard := none }) rfl (fun K hK => ?_) AllReadyH.nil
            go_simp
            refine hK.out _ _ ⟨B7.out.mono hzl, HK1.out.kept B7.out hzc⟩ (fun hHeld => ?_)
            clear hK K
            try simp only [Act.put, List.setIfInBounds_toArray, List.set_cons_zero, List.set_cons_succ]
            obtain ⟨v8, w8, hrun, ho8, hg8⟩ := run_append_sp (w6.alloc (.cells #[.int .i64 lo'.kind, .int .u64 (lo'.v.a : Int), .int .u64 (lo'.v.b : Int), .int .u64 (lo'.v.c : Int), .slice lo'.A lo'.v.pre.length lo'.c, .slice lo'.B lo'.v.build.length lo'.d, .int .i64 cu'.kind, .int .u64 (cu'.v.a : Int), .int .u64 (cu'.v.b : Int), .int .u64 (cu'.v.c : Int), .slice cu'.A cu'.v.pre.length cu'.c, .slice cu'.B cu'.v.build.length cu'.d] 43)) 31 (ws.heap.size + 1) set out.length out (own_below HA1.out.own B7.out) ⟨w6.heap.size, 0, none⟩ 1 1 [⟨lo', cu'⟩] rfl (news_new w6 _ _) (by omega) (Nat.le_trans hzl B7.out.size)
            have HA8 := Lib.hid (HA1.out.more (s := ⟨lo', cu'⟩) B7.out (P6.out.kept A7.out) (O6.out.kept A7.out) hg8 ho8 (by omega))
            have K8 : Hid (At6B w8 bc (.int .i64 cu.kind) (.int .u64 (cu.v.a : Int)) (.int .u64 (cu.v.b : Int)) (.int .u64 (cu.v.c : Int)) (.slice cu.A cu.v.pre.length cu.c) (.slice cu.B cu.v.build.length cu.d)) := (HK1.out.kept B7.out hzc).grown hg8 ((HTG1.out.kept B7.out hzc).apart (own_below HA1.out.own B7.out))
            have B8 : Hid (Below (ws.heap.size + 1) Wc w8) := (B7.out.mono hzl).grown hg8 (Nat.le_trans hzl B7.out.size) (fun k hk => (HA1.out.own.lt k hk).1)
            have HE3 : Hid (sweepL m (rs.map REdge.edge) = (out ++ [(⟨lo', cu'⟩ : RSp)]).map RSp.sp ++ nextL m (T + e1.step) lo.cut ((rs.drop (i + 1)).map REdge.edge)) := by
              unfold Hid
              have e5 : lo'.cut = lo.cut := by rw [E5.out, HA1.out.bare]; rfl
              have e6 : cu'.cut = cu.cut := by rw [E6.out]; show (⟨cu.kind, bare cu.cut.v⟩ : Cut) = _; rw [right_bare HCR.out]; rfl
              rw [HE2.out, List.map_append, List.append_assoc]; show _ = _ ++ ([Sp.mk lo'.cut cu'.cut] ++ _); rw [e5, e6]; rfl
            clear ho8 hg8 hHeld HE2
            refine wpAnyH_ready (rs := [7]) (by kernel_rfl) (by simp) ?_
            refine AllReadyH.cons (o := { dst := some 73, op := Op.call { callee := Callee.builtin Builtin.append, args := #[Operand.tmp 66, Operand.tmp 72], argTypes := #[31, 31] }, type := 31, pos := _, after := _, guard := none }) rfl (fun K hK => ?_) AllReadyH.nil
            refine region_append_sp (by rfl) _ _ rfl rfl rfl hrun ?_
            refine hK.out _ _ ⟨B8.out, K8.out⟩ (fun hHeld => ?_)
            clear hK K hrun
            try simp only [Act.put, List.setIfInBounds_toArray, List.set_cons_zero, List.set_cons_succ]
            refine wpAnyH_take (i := 8) (oi := { dst := some 5, op := Op.assign (Operand.tmp 73), type := 31, pos := _, after := _, guard := none }) (v := v8) rfl (by kernel_rfl) (by kernel_rfl) (by kernel_rfl) (fun _ _ _ h => h) (Or.inl ⟨by rfl, fun w' hS' => by go_simp⟩) (by assumption) ?_
            simp only [Act.put, List.setIfInBounds_toArray, List.set_cons_zero, List.set_cons_succ]
            refine wpAnyH_done (by kernel_rfl) ?_ _
            clear hHeld
            go_wp2
            go_step3
            rw [show ((i : Int) + 1) = ((i + 1 : Nat) : Int) from rfl]
            exact .inl ⟨rfl, SwJ0.mk ws rs (i + 1) (T + e1.step) v8 (out ++ [⟨lo', cu'⟩]) lo HF.out HA8.out HE3.out rfl, by rw [hmm2]; simp [SwM0, intOf]; omega⟩
    · have HEN : Hid (Ends cu.cut ((rs.drop (i + 1)).map REdge.edge)) := .inl (by rw [List.drop_eq_nil_of_le (by rw [HF.out.len]; omega)]; rfl)
      obtain ⟨_, _, x0, x1, x2, x3, x4, x5⟩ := HK.out
      go_upto_region 10 with (fail)
      have hd1 : decide ((i : Int) + 1 < (re.length : Int)) = false := decide_eq_false (by omega)
      have hd2 : (re.length : Int) ≤ (i : Int) + 1 := by omega
      refine wp_region_held_drew (S := fun w' => Below W.heap.size W w') (by kernel_rfl) (Below.refl _ _).drew (fun hHeld => ?_)
      refine wpAnyH_take (i := 0) (oi := { dst := some 36, op := Op.move (Operand.tmp 7), type := 3, pos := _, after := _, guard := none }) (v := .int .i64 ((i : Int) + 1)) rfl (by kernel_rfl) (by kernel_rfl) (by kernel_rfl) (fun _ _ _ h => h) (Or.inl ⟨by rfl, fun w' hS' => by go_simp⟩) (by assumption) ?_
      simp only [Act.put, List.setIfInBounds_toArray, List.set_cons_zero, List.set_cons_succ]
      refine wpAnyH_take (i := 1) (oi := { dst := some 37, op := Op.move (Operand.tmp 0), type := 63, pos := _, after := _, guard := none }) (v := .slice (some ⟨g, 0, none⟩) re.length c) rfl (by kernel_rfl) (by kernel_rfl) (by kernel_rfl) (fun _ _ _ h => h) (Or.inl ⟨by rfl, fun w' hS' => by go_simp⟩) (by assumption) ?_
      simp only [Act.put, List.setIfInBounds_toArray, List.set_cons_zero, List.set_cons_succ]
      refine wpAnyH_take (i := 2) (oi := { dst := some 38, op := Op.call { callee := Callee.builtin Builtin.len, args := #[Operand.tmp 37], argTypes := #[63] }, type := 3, pos := _, after := _, guard := none }) (v := .int .i64 (re.length : Int)) rfl (by kernel_rfl) (by kernel_rfl) (by kernel_rfl) (fun _ _ _ h => h) (Or.inl ⟨by rfl, fun w' hS' => by go_simp⟩) (by assumption) ?_
      simp only [Act.put, List.setIfInBounds_toArray, List.set_cons_zero, List.set_cons_succ]
      refine wpAnyH_take (i := 3) (oi := { dst := some 39, op := Op.binOp BinOp.lss 3 (Operand.tmp 36) (Operand.tmp 38) 3, type := 4, pos := _, after := _, guard := none }) (v := .bool false) rfl (by kernel_rfl) (by kernel_rfl) (by kernel_rfl) (fun _ _ _ h => h) (Or.inl ⟨by rfl, fun w' hS' => by go_simp⟩) (by assumption) ?_
      simp only [Act.put, List.setIfInBounds_toArray, List.set_cons_zero, List.set_cons_succ]
      refine wpAnyH_take (i := 4) (oi := { dst := some 40, op := Op.move (Operand.tmp 39), type := 4, pos := _, after := _, guard := none }) (v := .bool false) rfl (by kernel_rfl) (by kernel_rfl) (by kernel_rfl) (fun _ _ _ h => h) (Or.inl ⟨by rfl, fun w' hS' => by go_simp⟩) (by assumption) ?_
      simp only [Act.put, List.setIfInBounds_toArray, List.set_cons_zero, List.set_cons_succ]
      refine wpAnyH_take (i := 5) (oi := { dst := some 41, op := Op.load 41 (Operand.tmp 9), type := 41, pos := _, after := _, guard := some (4, true) }) (v := undef) rfl (by kernel_rfl) (by kernel_rfl) (by kernel_rfl) (fun _ _ _ h => h) (Or.inr ⟨by rfl, rfl⟩) (by assumption) ?_
      simp only [Act.put, List.setIfInBounds_toArray, List.set_cons_zero, List.set_cons_succ]
      refine wpAnyH_take (i := 6) (oi := { dst := some 42, op := Op.move (Operand.tmp 0), type := 63, pos := _, after := _, guard := some (4, true) }) (v := undef) rfl (by kernel_rfl) (by kernel_rfl) (by kernel_rfl) (fun _ _ _ h => h) (Or.inr ⟨by rfl, rfl⟩) (by assumption) ?_
      simp only [Act.put, List.setIfInBounds_toArray, List.set_cons_zero, List.set_cons_succ]
      refine wpAnyH_take (i := 7) (oi := { dst := some 43, op := Op.move (Operand.tmp 7), type := 3, pos := _, after := _, guard := some (4, true) }) (v := undef) rfl (by kernel_rfl) (by kernel_rfl) (by kernel_rfl) (fun _ _ _ h => h) (Or.inr ⟨by rfl, rfl⟩) (by assumption) ?_
      simp only [Act.put, List.setIfInBounds_toArray, List.set_cons_zero, List.set_cons_succ]
      refine wpAnyH_take (i := 8) (oi := { dst := some 44, op := Op.indexAddr 63 (Operand.tmp 42) (Operand.tmp 43), type := 0, pos := _, after := _, guard := some (4, true) }) (v := undef) rfl (by kernel_rfl) (by kernel_rfl) (by kernel_rfl) (fun _ _ _ h => h) (Or.inr ⟨by rfl, rfl⟩) (by assumption) ?_
      simp only [Act.put, List.setIfInBounds_toArray, List.set_cons_zero, List.set_cons_succ]
      refine wpAnyH_take (i := 9) (oi := { dst := some 45, op := Op.fieldAddr 111 (Operand.tmp 44) 0, type := 0, pos := _, after := _, guard := some (4, true) }) (v := undef) rfl (by kernel_rfl) (by kernel_rfl) (by kernel_rfl) (fun _ _ _ h => h) (Or.inr ⟨by rfl, rfl⟩) (by assumption) ?_
      simp only [Act.put, List.setIfInBounds_toArray, List.set_cons_zero, List.set_cons_succ]
      refine wpAnyH_take (i := 10) (oi := { dst := some 46, op := Op.load 41 (Operand.tmp 45), type := 41, pos := _, after := _, guard := some (4, true) }) (v := undef) rfl (by kernel_rfl) (by kernel_rfl) (by kernel_rfl) (fun _ _ _ h => h) (Or.inr ⟨by rfl, rfl⟩) (by assumption) ?_
      simp only [Act.put, List.setIfInBounds_toArray, List.set_cons_zero, List.set_cons_succ]
      refine wpAnyH_take (i := 11) (oi := { dst := some 47, op := Op.call { callee := Callee.value (Operand.func 81), args := #[Operand.tmp 41, Operand.tmp 46], argTypes := #[41, 41] }, type := 3, pos := _, after := _, guard := some (4, true) }) (v := undef) rfl (by kernel_rfl) (by kernel_rfl) (by kernel_rfl) (fun _ _ _ h => h) (Or.inr ⟨by rfl, rfl⟩) (by assumption) ?_
      simp only [Act.put, List.setIfInBounds_toArray, List.set_cons_zero, List.set_cons_succ]
      refine wpAnyH_take (i := 12) (oi := { dst := some 48, op := Op.binOp BinOp.eql 3 (Operand.tmp 47) (Operand.const (Value.int IntKind.i64 0)) 3, type := 4, pos := _, after := _, guard := some (4, true) }) (v := undef) rfl (by kernel_rfl) (by kernel_rfl) (by kernel_rfl) (fun _ _ _ h => h) (Or.inr ⟨by rfl, rfl⟩) (by assumption) ?_
      simp only [Act.put, List.setIfInBounds_toArray, List.set_cons_zero, List.set_cons_succ]
      refine wpAnyH_take (i := 13) (oi := { dst := some 49, op := Op.pick (Operand.tmp 40) (Operand.tmp 48) (Operand.const (Value.bool false)), type := 4, pos := _, after := _, guard := none }) (v := .bool false) rfl (by kernel_rfl) (by kernel_rfl) (by kernel_rfl) (fun _ _ _ h => h) (Or.inl ⟨by rfl, fun w' hS' => by go_simp⟩) (by assumption) ?_
      simp only [Act.put, List.setIfInBounds_toArray, List.set_cons_zero, List.set_cons_succ]
      refine wpAnyH_done (by kernel_rfl) ?_ _
      clear hHeld
      change Exit.then _ _ _ _ W.drew
      have HA1 := Lib.hid ((HA.out.kept (Below.refl W.heap.size W).drew).step hst1 hst2 hlt)
      have HK1 := Lib.hid HK.out.drew
      have HTG1 : Hid (Tag W.drew bc) := HTG.out
      have HMC1 : Hid (W.drew.cell? ⟨mb, 0, none⟩ = some (.int .i64 m)) := HMC.out
      have hw2 : W.drew.heap.size = W.heap.size := rfl
      clear z0 z1 z2 z3 z4 z5 z6 x0 x1 x2 x3 x4 x5 hd1 hd2 HCE
      generalize W.drew = Wc at HA1 HK1 HTG1 HMC1 hw2 ⊢
      have HO1 := Lib.hid (HF.out.old.trans (HA1.out.bel.mono HF.out.old.size))
      rw [← hw2] at hml hzl hzc
      clear HA HK HTG HMC hw2 hgl2
      go_wp2_with fail
      refine (in_any (T + e1.step) m mb _ HMC1.out).mono ?_
      rintro e w' ⟨rfl, rfl⟩
      clear HMC1
      obtain ⟨_, hf, x0, x1, x2, x3, x4, x5⟩ := HA1.out.lob
      obtain ⟨_, _, y0, y1, y2, y3, y4, y5⟩ := HK1.out
      by_cases hmt : m ≤ T + e1.step
      · rw [decide_eq_true hmt]
        cases was
        · have HE2 : Hid (sweepL m (rs.map REdge.edge) = out.map RSp.sp ++ nextL m (T + e1.step) cu.cut ((rs.drop (i + 1)).map REdge.edge)) := by
            unfold Hid
            rw [HE1.out, go_open_ HEN.out hmt]; rfl
          have HA3 := Lib.hid (HA1.out.setlo cu HCL.out HCR.out)
          clear HE1 hmt
          go_wp2
          go_step3
          rw [show ((i : Int) + 1) = ((i + 1 : Nat) : Int) from rfl]
          exact .inl ⟨rfl, SwJ0.mk ws rs (i + 1) (T + e1.step) set out cu HF.out HA3.out HE2.out rfl, by rw [hmm2]; simp [SwM0, intOf]; omega⟩
        · have HE2 : Hid (sweepL m (rs.map REdge.edge) = out.map RSp.sp ++ nextL m (T + e1.step) lo.cut ((rs.drop (i + 1)).map REdge.edge)) := by
            unfold Hid
            rw [HE1.out, go_same HEN.out (decide_eq_true hmt)]; rfl
          clear HE1 hmt
          go_wp2
          go_step3
          rw [show ((i : Int) + 1) = ((i + 1 : Nat) : Int) from rfl]
          exact .inl ⟨rfl, SwJ0.mk ws rs (i + 1) (T + e1.step) set out lo HF.out HA1.out HE2.out rfl, by rw [hmm2]; simp [SwM0, intOf]; omega⟩
      · rw [decide_eq_false hmt]
        cases was
        · have HE2 : Hid (sweepL m (rs.map REdge.edge) = out.map RSp.sp ++ nextL m (T + e1.step) lo.cut ((rs.drop (i + 1)).map REdge.edge)) := by
            unfold Hid
            rw [HE1.out, go_same HEN.out (decide_eq_false hmt)]; rfl
          clear HE1 hmt
          go_wp2
          go_step3
          rw [show ((i : Int) + 1) = ((i + 1 : Nat) : Int) from rfl]
          exact .inl ⟨rfl, SwJ0.mk ws rs (i + 1) (T + e1.step) set out lo HF.out HA1.out HE2.out rfl, by rw [hmm2]; simp [SwM0, intOf]; omega⟩
        · have HE2 : Hid (sweepL m (rs.map REdge.edge) = out.map RSp.sp ++ (⟨lo.cut, cu.cut⟩ :: nextL m (T + e1.step) lo.cut ((rs.drop (i + 1)).map REdge.edge))) := by
            unfold Hid
            rw [HE1.out, go_shut HEN.out hmt]; rfl
          clear HE1 hmt
          go_upto_region 15 with (fail)
          have B0 := Lib.hid ((Below.refl Wc.heap.size Wc).drew)
          refine wp_region_held_drew (S := fun w' => Below (ws.heap.size + 1) Wc w' ∧ At6B w' bc (.int .i64 cu.kind) (.int .u64 (cu.v.a : Int)) (.int .u64 (cu.v.b : Int)) (.int .u64 (cu.v.c : Int)) (.slice cu.A cu.v.pre.length cu.c) (.slice cu.B cu.v.build.length cu.d)) (by kernel_rfl) ⟨B0.out.mono hzl, HK1.out.drew⟩ (fun hHeld => ?_)
          refine wpAnyH_take (i := 0) (oi := { dst := some 66, op := Op.move (Operand.tmp 5), type := 31, pos := _, after := _, guard := none }) (v := set) rfl (by kernel_rfl) (by kernel_rfl) (by kernel_rfl) (fun _ _ _ h => h) (Or.inl ⟨by rfl, fun w' hS' => by go_simp⟩) (by assumption) ?_
          simp only [Act.put, List.setIfInBounds_toArray, List.set_cons_zero, List.set_cons_succ]
          refine wpAnyH_take (i := 1) (oi := { dst := some 67, op := Op.load 41 (Operand.tmp 6), type := 41, pos := _, after := _, guard := none }) (v := .agg #[.int .i64 lo.kind, .int .u64 (lo.v.a : Int), .int .u64 (lo.v.b : Int), .int .u64 (lo.v.c : Int), .slice lo.A lo.v.pre.length lo.c, .slice lo.B lo.v.build.length lo.d]) rfl (by kernel_rfl) (by kernel_rfl) (by kernel_rfl) (fun _ _ _ h => h) (Or.inl ⟨by rfl, fun w' hS' => by have q0 := (hS'.1.cell (p := ⟨ws.heap.size, 0, none⟩) (Nat.lt_succ_self _)).trans x0; have q1 := (hS'.1.cell (p := ⟨ws.heap.size, 1, none⟩) (Nat.lt_succ_self _)).trans x1; have q2 := (hS'.1.cell (p := ⟨ws.heap.size, 2, none⟩) (Nat.lt_succ_self _)).trans x2; have q3 := (hS'.1.cell (p := ⟨ws.heap.size, 3, none⟩) (Nat.lt_succ_self _)).trans x3; have q4 := (hS'.1.cell (p := ⟨ws.heap.size, 4, none⟩) (Nat.lt_succ_self _)).trans x4; have q5 := (hS'.1.cell (p := ⟨ws.heap.size, 5, none⟩) (Nat.lt_succ_self _)).trans x5; go_simp⟩) (by assumption) ?_
          simp only [Act.put, List.setIfInBounds_toArray, List.set_cons_zero, List.set_cons_succ]
          refine wpAnyH_take (i := 3) (oi := { dst := some 69, op := Op.load 41 (Operand.tmp 9), type := 41, pos := _, after := _, guard := none }) (v := .agg #[.int .i64 cu.kind, .int .u64 (cu.v.a : Int), .int .u64 (cu.v.b : Int), .int .u64 (cu.v.c : Int), .slice cu.A cu.v.pre.length cu.c, .slice cu.B cu.v.build.length cu.d]) rfl (by kernel_rfl) (by kernel_rfl) (by kernel_rfl) (fun _ _ _ h => h) (Or.inl ⟨by rfl, fun w' hS' => by obtain ⟨_, _, _, q0, q1, q2, q3, q4, q5⟩ := hS'; go_simp⟩) (by assumption) ?_
          simp only [Act.put, List.setIfInBounds_toArray, List.set_cons_zero, List.set_cons_succ]
          refine wpAnyH_ready (rs := [2]) (by kernel_rfl) (by simp) ?_
          refine AllReadyH.cons (o := { dst := some 68, op := Op.call { callee := Callee.value (Operand.func 84), args := #[Operand.tmp 67], argTypes := #[41] }, type := 41, pos := _, after := _, guard := none }) rfl (fun K hK => ?_) AllReadyH.nil
          go_simp
          refine (copied_any lo _ ((HA1.out.lies.kept HO1.out).kept B0.out) (Nat.le_trans HA1.out.few (by omega))).mono ?_
          rintro e w5 ⟨lo', rfl, hlo5, ho5, hb5⟩
          have B5 := Lib.hid (B0.out.trans (hb5.mono B0.out.size))
          have O5 := Lib.hid (ho5.mono (Nat.le_trans hzl B0.out.size))
          have E5 := Lib.hid hlo5
          clear ho5 hb5 hlo5 hHeld
          refine hK.out _ _ ⟨B5.out.mono hzl, HK1.out.kept B5.out hzc⟩ (fun hHeld => ?_)
          clear hK K
          try simp only [Act.put, List.setIfInBounds_toArray, List.set_cons_zero, List.set_cons_succ]
          refine wpAnyH_ready (rs := [4]) (by kernel_rfl) (by simp) ?_
          refine AllReadyH.cons (o := { dst := some 70, op := Op.call { callee := Callee.value (Operand.func 84), args := #[Operand.tmp 69], argTypes := #[41] }, type := 41, pos := _, after := _, guard := none }) rfl (fun K hK => ?_) AllReadyH.nil
          go_simp
          refine (copied_any cu _ ((HCL.out.kept HO1.out).kept B5.out) (Nat.le_trans (right_few HCR.out).1 (by omega))).mono ?_
          rintro e w6 ⟨cu', rfl, hcu6, ho6, hb6⟩
          have B6 := Lib.hid (B5.out.trans (hb6.mono B5.out.size))
          have O6 := Lib.hid (ho6.mono (Nat.le_trans hzl B5.out.size))
          have P6 := Lib.hid (O5.out.kept hb6)
          have E6 := Lib.hid hcu6
          clear ho6 hb6 hcu6 hHeld
          refine hK.out _ _ ⟨B6.out.mono hzl, HK1.out.kept B6.out hzc⟩ (fun hHeld => ?_)
          clear hK K
          try simp only [Act.put, List.setIfInBounds_toArray, List.set_cons_zero, List.set_cons_succ]
          refine wpAnyH_take (i := 5) (oi := { dst := some 71, op := Op.build 43 #[(0, Operand.tmp 68), (1, Operand.tmp 70)], type := 43, pos := _, after := _, guard := none }) (v := .agg #[.int .i64 lo'.kind, .int .u64 (lo'.v.a : Int), .int .u64 (lo'.v.b : Int), .int .u64 (lo'.v.c : Int), .slice lo'.A lo'.v.pre.length lo'.c, .slice lo'.B lo'.v.build.length lo'.d, .int .i64 cu'.kind, .int .u64 (cu'.v.a : Int), .int .u64 (cu'.v.b : Int), .int .u64 (cu'.v.c : Int), .slice cu'.A cu'.v.pre.length cu'.c, .slice cu'.B cu'.v.build.length cu'.d]) rfl (by kernel_rfl) (by kernel_rfl) (by kernel_rfl) (fun _ _ _ h => h) (Or.inl ⟨by rfl, fun w' hS' => by go_simp⟩) (by assumption) ?_
          simp only [Act.put, List.setIfInBounds_toArray, List.set_cons_zero, List.set_cons_succ]
          have A7 := Lib.hid ((Below.refl w6.heap.size w6).alloc (Nat.le_refl _) (.cells #[.int .i64 lo'.kind, .int .u64 (lo'.v.a : Int), .int .u64 (lo'.v.b : Int), .int .u64 (lo'.v.c : Int), .slice lo'.A lo'.v.pre.length lo'.c, .slice lo'.B lo'.v.build.length lo'.d, .int .i64 cu'.kind, .int .u64 (cu'.v.a : Int), .int .u64 (cu'.v.b : Int), .int .u64 (cu'.v.c : Int), .slice cu'.A cu'.v.pre.length cu'.c, .slice cu'.B cu'.v.build.length cu'.d] 43))
          have B7 := Lib.hid (B6.out.trans (A7.out.mono B6.out.size))
          refine wpAnyH_ready (rs := [6]) (by kernel_rfl) (by simp) ?_
          refine AllReadyH.cons (o := { dst := some 72, op := Op.buildSlice 31 1 #[(0, Operand.tmp 71)], type := 31, pos := _, after := _, guard := none }) rfl (fun K hK => ?_) AllReadyH.nil
          go_simp
          refine hK.out _ _ ⟨B7.out.mono hzl, HK1.out.kept B7.out hzc⟩ (fun hHeld => ?_)
          clear hK K
          try simp only [Act.put, List.setIfInBounds_toArray, List.set_cons_zero, List.set_cons_succ]
          obtain ⟨v8, w8, hrun, ho8, hg8⟩ := run_append_sp (w6.alloc (.cells #[.int .i64 lo'.kind, .int .u64 (lo'.v.a : Int), .int .u64 (lo'.v.b : Int), .int .u64 (lo'.v.c : Int), .slice lo'.A lo'.v.pre.length lo'.c, .slice lo'.B lo'.v.build.length lo'.d, .int .i64 cu'.kind, .int .u64 (cu'.v.a : Int), .int .u64 (cu'.v.b : Int), .int .u64 (cu'.v.c : Int), .slice cu'.A cu'.v.pre.length cu'.c, .slice cu'.B cu'.v.build.length cu'.d] 43)) 31 (ws.heap.size + 1) set out.length out (own_below HA1.out.own B7.out) ⟨w6.heap.size, 0, none⟩ 1 1 [⟨lo', cu'⟩] rfl (news_new w6 _ _) (by omega) (Nat.le_trans hzl B7.out.size)
          have HA8 := Lib.hid (HA1.out.more (s := ⟨lo', cu'⟩) B7.out (P6.out.kept A7.out) (O6.out.kept A7.out) hg8 ho8 (by omega))
          have K8 : Hid (At6B w8 bc (.int .i64 cu.kind) (.int .u64 (cu.v.a : Int)) (.int .u64 (cu.v.b : Int)) (.int .u64 (cu.v.c : Int)) (.slice cu.A cu.v.pre.length cu.c) (.slice cu.B cu.v.build.length cu.d)) := (HK1.out.kept B7.out hzc).grown hg8 ((HTG1.out.kept B7.out hzc).apart (own_below HA1.out.own B7.out))
          have B8 : Hid (Below (ws.heap.size + 1) Wc w8) := (B7.out.mono hzl).grown hg8 (Nat.le_trans hzl B7.out.size) (fun k hk => (HA1.out.own.lt k hk).1)
          have HE3 : Hid (sweepL m (rs.map REdge.edge) = (out ++ [(⟨lo', cu'⟩ : RSp)]).map RSp.sp ++ nextL m (T + e1.step) lo.cut ((rs.drop (i + 1)).map REdge.edge)) := by
            unfold Hid
            have e5 : lo'.cut = lo.cut := by rw [E5.out, HA1.out.bare]; rfl
            have e6 : cu'.cut = cu.cut := by rw [E6.out]; show (⟨cu.kind, bare cu.cut.v⟩ : Cut) = _; rw [right_bare HCR.out]; rfl
            rw [HE2.out, List.map_append, List.append_assoc]; show _ = _ ++ ([Sp.mk lo'.cut cu'.cut] ++ _); rw [e5, e6]; rfl
          clear ho8 hg8 hHeld HE2
          refine wpAnyH_ready (rs := [7]) (by kernel_rfl) (by simp) ?_
          refine AllReadyH.cons (o := { dst := some 73, op := Op.call { callee := Callee.builtin Builtin.append, args := #[Operand.tmp 66, Operand.tmp 72], argTypes := #[31, 31] }, type := 31, pos := _, after := _, guard := none }) rfl (fun K hK => ?_) AllReadyH.nil
          refine region_append_sp (by rfl) _ _ rfl rfl rfl hrun ?_
          refine hK.out _ _ ⟨B8.out, K8.out⟩ (fun hHeld => ?_)
          clear hK K hrun
          try simp only [Act.put, List.setIfInBounds_toArray, List.set_cons_zero, List.set_cons_succ]
          refine wpAnyH_take (i := 8) (oi := { dst := some 5, op := Op.assign (Operand.tmp 73), type := 31, pos := _, after := _, guard := none }) (v := v8) rfl (by kernel_rfl) (by kernel_rfl) (by kernel_rfl) (fun _ _ _ h => h) (Or.inl ⟨by rfl, fun w' hS' => by go_simp⟩) (by assumption) ?_
          simp only [Act.put, List.setIfInBounds_toArray, List.set_cons_zero, List.set_cons_succ]
          refine wpAnyH_done (by kernel_rfl) ?_ _
          clear hHeld
          go_wp2
          go_step3
          rw [show ((i : Int) + 1) = ((i + 1 : Nat) : Int) from rfl]
          exact .inl ⟨rfl, SwJ0.mk ws rs (i + 1) (T + e1.step) v8 (out ++ [⟨lo', cu'⟩]) lo HF.out HA8.out HE3.out rfl, by rw [hmm2]; simp [SwM0, intOf]; omega⟩
  · intro HP
    intro mm
    refine SwJ0.out ?_
    intro W ws rs i T set out lo u9 u10 u11 u14 u15 u16 u17 u18 u19 u20 u21 u22 u23 u24 u25 u26 u27 u28 u29 u30 u31 u32 u33 u34 u35 u36 u37 u38 u39 u40 u41 u42 u43 u44 u45 u46 u47 u48 u49 u50 u51 u52 u53 u54 u55 u56 u57 u58 u59 u60 u61 u62 u63 u64 u65 u66 u67 u68 u69 u70 u71 u72 u73 hfix hat heq hmm
    have hmm2 : mm = 2 * (re.length - i) + 1 := by rw [← hmm]; simp [SwM0, intOf]
    clear hmm
    have HF := Lib.hid hfix
    have HA := Lib.hid hat
    have HE := Lib.hid heq
    have hi := hat.ile
    have hsm := hfix.small
    clear hfix hat heq
    by_cases hlt : i < re.length
    · have e0 : ((i : Int) == (re.length : Int)) = false := by rw [beq_eq_false_iff_ne]; omega
      go_upto_region 7 with (fail)
      obtain ⟨g, rfl, hgl, hcl⟩ := HF.out.cells (by omega)
      obtain ⟨z0, z1, z2, z3, z4, z5, z6⟩ := ed_cells (w := W) (g := g) (n := re.length) (l := rs) (fun j hj q u hu => (HA.out.bel.cell (p := ⟨g, 0 + j * 7 + q, none⟩) hgl).trans (hcl j hj q u hu)) hlt
      have hmc : W.cell? ⟨mb, 0, none⟩ = some (.int .i64 m) := (HA.out.bel.cell (p := ⟨mb, 0, none⟩) HF.out.mbl).trans HF.out.mbc
      clear hcl
      have HX : Hid (Lies w1 (rs.getD i default).cut ∧ right (rs.getD i default).cut.cut = true) := ⟨HF.out.lies _ (getE_mem (by rw [HF.out.len]; exact hlt)), HF.out.right _ (getE_mem (by rw [HF.out.len]; exact hlt))⟩
      have HE1 : Hid (sweepL m (rs.map REdge.edge) = out.map RSp.sp ++ go m (rs.getD i default).cut.cut (decide (m ≤ T)) T lo.cut ((rs.drop i).map REdge.edge)) := by
        unfold Hid; rw [HE.out, drop_ed rs i (by rw [HF.out.len]; exact hlt)]; rfl
      generalize rs.getD i default = e1 at z0 z1 z2 z3 z4 z5 z6 HX HE1
      have hml : mb < W.heap.size := Nat.lt_of_lt_of_le HF.out.mbl HA.out.bel.size
      have hgl2 : g < W.heap.size := Nat.lt_of_lt_of_le hgl HA.out.bel.size
      refine wp_region_held_drew (S := fun w' => Below W.heap.size W w') (by kernel_rfl) (Below.refl _ _).drew (fun hHeld => ?_)
      refine wpAnyH_take (i := 0) (oi := { dst := some 19, op := Op.move (Operand.tmp 0), type := 63, pos := _, after := _, guard := none }) (v := .slice (some ⟨g, 0, none⟩) re.length c) rfl (by kernel_rfl) (by kernel_rfl) (by kernel_rfl) (fun _ _ _ h => h) (Or.inl ⟨by rfl, fun w' hS' => by go_simp⟩) (by assumption) ?_
      simp only [Act.put, List.setIfInBounds_toArray, List.set_cons_zero, List.set_cons_succ]
      refine wpAnyH_take (i := 1) (oi := { dst := some 20, op := Op.move (Operand.tmp 7), type := 3, pos := _, after := _, guard := none }) (v := .int .i64 (i : Int)) rfl (by kernel_rfl) (by kernel_rfl) (by kernel_rfl) (fun _ _ _ h => h) (Or.inl ⟨by rfl, fun w' hS' => by go_simp⟩) (by assumption) ?_
      simp only [Act.put, List.setIfInBounds_toArray, List.set_cons_zero, List.set_cons_succ]
      refine wpAnyH_take (i := 2) (oi := { dst := some 21, op := Op.indexAddr 63 (Operand.tmp 19) (Operand.tmp 20), type := 0, pos := _, after := _, guard := none }) (v := .pointer (some ⟨g, i * 7, none⟩)) rfl (by kernel_rfl) (by kernel_rfl) (by kernel_rfl) (fun _ _ _ h => h) (Or.inl ⟨by rfl, fun w' hS' => by go_simp⟩) (by assumption) ?_
      simp only [Act.put, List.setIfInBounds_toArray, List.set_cons_zero, List.set_cons_succ]
      refine wpAnyH_take (i := 3) (oi := { dst := some 22, op := Op.fieldAddr 111 (Operand.tmp 21) 0, type := 0, pos := _, after := _, guard := none }) (v := .pointer (some ⟨g, i * 7, none⟩)) rfl (by kernel_rfl) (by kernel_rfl) (by kernel_rfl) (fun _ _ _ h => h) (Or.inl ⟨by rfl, fun w' hS' => by go_simp⟩) (by assumption) ?_
      simp only [Act.put, List.setIfInBounds_toArray, List.set_cons_zero, List.set_cons_succ]
      refine wpAnyH_take (i := 4) (oi := { dst := some 23, op := Op.load 41 (Operand.tmp 22), type := 41, pos := _, after := _, guard := none }) (v := .agg #[.int .i64 e1.cut.kind, .int .u64 (e1.cut.v.a : Int), .int .u64 (e1.cut.v.b : Int), .int .u64 (e1.cut.v.c : Int), .slice e1.cut.A e1.cut.v.pre.length e1.cut.c, .slice e1.cut.B e1.cut.v.build.length e1.cut.d]) rfl (by kernel_rfl) (by kernel_rfl) (by kernel_rfl) (fun _ _ _ h => h) (Or.inl ⟨by rfl, fun w' hS' => by have q0 := (hS'.cell (p := ⟨g, i * 7, none⟩) hgl2).trans z0; have q1 := (hS'.cell (p := ⟨g, i * 7 + 1, none⟩) hgl2).trans z1; have q2 := (hS'.cell (p := ⟨g, i * 7 + 2, none⟩) hgl2).trans z2; have q3 := (hS'.cell (p := ⟨g, i * 7 + 3, none⟩) hgl2).trans z3; have q4 := (hS'.cell (p := ⟨g, i * 7 + 4, none⟩) hgl2).trans z4; have q5 := (hS'.cell (p := ⟨g, i * 7 + 5, none⟩) hgl2).trans z5; go_simp⟩) (by assumption) ?_
      simp only [Act.put, List.setIfInBounds_toArray, List.set_cons_zero, List.set_cons_succ]
      refine wpAnyH_take (i := 5) (oi := { dst := some 24, op := Op.move (Operand.tmp 1), type := 65, pos := _, after := _, guard := none }) (v := .func (.func 86) #[] #[.pointer (some ⟨mb, 0, none⟩)]) rfl (by kernel_rfl) (by kernel_rfl) (by kernel_rfl) (fun _ _ _ h => h) (Or.inl ⟨by rfl, fun w' hS' => by go_simp⟩) (by assumption) ?_
      simp only [Act.put, List.setIfInBounds_toArray, List.set_cons_zero, List.set_cons_succ]
      refine wpAnyH_take (i := 6) (oi := { dst := some 25, op := Op.move (Operand.tmp 8), type := 3, pos := _, after := _, guard := none }) (v := .int .i64 T) rfl (by kernel_rfl) (by kernel_rfl) (by kernel_rfl) (fun _ _ _ h => h) (Or.inl ⟨by rfl, fun w' hS' => by go_simp⟩) (by assumption) ?_
      simp only [Act.put, List.setIfInBounds_toArray, List.set_cons_zero, List.set_cons_succ]
      refine wpAnyH_ready (rs := [7, 8]) (by kernel_rfl) (by simp) ?_
      refine AllReadyH.cons (o := { dst := some 26, op := Op.call { callee := Callee.value (Operand.tmp 24), args := #[Operand.tmp 25], argTypes := #[3] }, type := 4, pos := _, after := _, guard := none }) rfl (fun K hK => ?_) (AllReadyH.cons (o := { dst := some 9, op := Op.alloc 41, type := 0, pos := _, after := _, guard := none }) rfl (fun K hK => ?_) AllReadyH.nil)
      · go_simp
        refine (in_any T m mb _ ((hHeld.cell (p := ⟨mb, 0, none⟩) hml).trans hmc)).mono ?_
        rintro e w2 ⟨rfl, rfl⟩
        refine hK.out _ _ hHeld (fun hHeld => ?_)
        clear hK K
        try simp only [Act.put, List.setIfInBounds_toArray, List.set_cons_zero, List.set_cons_succ]
        refine wpAnyH_ready (rs := [8]) (by kernel_rfl) (by simp) ?_
        refine AllReadyH.cons (o := { dst := some 9, op := Op.alloc 41, type := 0, pos := _, after := _, guard := none }) rfl (fun K hK => ?_) AllReadyH.nil
        go_simp
        refine hK.out _ _ (((Below.refl W.heap.size W).alloc (Nat.le_refl _) _).drew) (fun hHeld => ?_)
        clear hK K
        try simp only [Act.put, List.setIfInBounds_toArray, List.set_cons_zero, List.set_cons_succ]
        refine wpAnyH_ready (rs := [9]) (by kernel_rfl) (by simp) ?_
        refine AllReadyH.cons (o := { dst := none, op := Op.store 41 (Operand.tmp 9) (Operand.tmp 23), type := 0, pos := _, after := _, guard := none }) rfl (fun K hK => ?_) AllReadyH.nil
        go_simp
        refine hK.out _ _ (((Below.refl W.heap.size W).alloc (Nat.le_refl _) _).drew) (fun hHeld => ?_)
        clear hK K
        try simp only [Act.put, List.setIfInBounds_toArray, List.set_cons_zero, List.set_cons_succ]
        refine wpAnyH_take (i := 10) (oi := { dst := some 10, op := Op.assign (Operand.tmp 26), type := 4, pos := _, after := _, guard := none }) (v := .bool (decide (m ≤ T))) rfl (by kernel_rfl) (by kernel_rfl) (by kernel_rfl) (fun _ _ _ h => h) (Or.inl ⟨by rfl, fun w' hS' => by go_simp⟩) (by assumption) ?_
        simp only [Act.put, List.setIfInBounds_toArray, List.set_cons_zero, List.set_cons_succ]
        refine wpAnyH_done (by kernel_rfl) ?_ _
        clear hHeld
        go_wp2
        go_step3
        rename_i hK
        exact hK _ _ (HP.out _ _ _ (SwJ1.mk ws rs i T set out lo W.heap.size e1.cut (decide (m ≤ T)) HF.out (HA.out.kept (((Below.refl W.heap.size W).alloc (Nat.le_refl _) _).drew)) hlt (At6B.drew (At6B.new W _ _ _ _ _ _ _)) (Tag.new W _) HX.out.1 HX.out.2 HE1.out rfl) (by rw [hmm2]; simp [SwM1, intOf]))
      · go_simp
        refine hK.out _ _ (((Below.refl W.heap.size W).alloc (Nat.le_refl _) _).drew) (fun hHeld => ?_)
        clear hK K
        try simp only [Act.put, List.setIfInBounds_toArray, List.set_cons_zero, List.set_cons_succ]
        refine wpAnyH_ready (rs := [7]) (by kernel_rfl) (by simp) ?_
        refine AllReadyH.cons (o := { dst := some 26, op := Op.call { callee := Callee.value (Operand.tmp 24), args := #[Operand.tmp 25], argTypes := #[3] }, type := 4, pos := _, after := _, guard := none }) rfl (fun K hK => ?_) AllReadyH.nil
        go_simp
        refine (in_any T m mb _ ((hHeld.cell (p := ⟨mb, 0, none⟩) hml).trans hmc)).mono ?_
        rintro e w2 ⟨rfl, rfl⟩
        refine hK.out _ _ hHeld (fun hHeld => ?_)
        clear hK K
        try simp only [Act.put, List.setIfInBounds_toArray, List.set_cons_zero, List.set_cons_succ]
        refine wpAnyH_ready (rs := [9]) (by kernel_rfl) (by simp) ?_
        refine AllReadyH.cons (o := { dst := none, op := Op.store 41 (Operand.tmp 9) (Operand.tmp 23), type := 0, pos := _, after := _, guard := none }) rfl (fun K hK => ?_) AllReadyH.nil
        go_simp
        refine hK.out _ _ (((Below.refl W.heap.size W).alloc (Nat.le_refl _) _).drew) (fun hHeld => ?_)
        clear hK K
        try simp only [Act.put, List.setIfInBounds_toArray, List.set_cons_zero, List.set_cons_succ]
        refine wpAnyH_take (i := 10) (oi := { dst := some 10, op := Op.assign (Operand.tmp 26), type := 4, pos := _, after := _, guard := none }) (v := .bool (decide (m ≤ T))) rfl (by kernel_rfl) (by kernel_rfl) (by kernel_rfl) (fun _ _ _ h => h) (Or.inl ⟨by rfl, fun w' hS' => by go_simp⟩) (by assumption) ?_
        simp only [Act.put, List.setIfInBounds_toArray, List.set_cons_zero, List.set_cons_succ]
        refine wpAnyH_done (by kernel_rfl) ?_ _
        clear hHeld
        go_wp2
        go_step3
        rename_i hK
        exact hK _ _ (HP.out _ _ _ (SwJ1.mk ws rs i T set out lo W.heap.size e1.cut (decide (m ≤ T)) HF.out (HA.out.kept (((Below.refl W.heap.size W).alloc (Nat.le_refl _) _).drew)) hlt (At6B.drew (At6B.new W _ _ _ _ _ _ _)) (Tag.new W _) HX.out.1 HX.out.2 HE1.out rfl) (by rw [hmm2]; simp [SwM1, intOf]))
    · have e0 : ((i : Int) == (re.length : Int)) = true := by rw [beq_iff_eq]; omega
      have HE2 : Hid (out.map RSp.sp = sweepL m (rs.map REdge.edge)) := by
        unfold Hid
        rw [HE.out, List.drop_eq_nil_of_le (by rw [HF.out.len]; omega)]; simp [nextL]
      go_wp2
      simp only [jumps]
      exact bodyPost_ret (v := set) (by simp [results, Tryz.results46, go_sem]) rfl ⟨ws.heap.size + 1, set, out, rs, rfl, HF.out.perm, HF.out.sorted, HE2.out, Nat.le_succ_of_le HF.out.old.size, HA.out.own, HA.out.cuts, Nat.le_trans HA.out.len hi, HF.out.old.trans (HA.out.bel.mono HF.out.old.size)⟩
  · intro HP
    go_wp2_with fail
    refine HS.out.mono ?_
    rintro e ws ⟨rfl, rs, hp, hpw, ho, hg⟩
    have HFX : Hid (SwFix w1 re A re.length mb m ws rs) := by
      have hln := hp.length_eq
      obtain ⟨A', c', e', _, _, hcell⟩ := own_cells evals_len ho rfl
      injection e' with e1 e2 e3
      subst e1
      refine ⟨hp, hpw, hln, hn, fun e he => HL.out e (hp.mem_iff.1 he), fun e he => HR.out e (hp.mem_iff.1 he), fun e he => HT.out e (hp.mem_iff.1 he), fun h0 => ?_, Nat.lt_of_lt_of_le hmb hg.size, hg.cell HC.out (Ne.symm HN.out), HB.out.grown hg HB.out.size (fun k hk => Nat.le_trans hbase (HOW.out.lt k hk).1)⟩
      obtain ⟨g, hg1, _, hg2, _, hg3⟩ := hcell (by rw [hln]; exact h0)
      exact ⟨g, hg1, hg2, by rw [← hln]; exact hg3⟩
    have HAT : Hid (SwAt w1 ws re.length 0 0 (.slice none 0 0) [] rlow (ws.alloc (.cells #[.int .i64 0, .int .u64 0, .int .u64 0, .int .u64 0, .slice none 0 0, .slice none 0 0] 41))) :=
      { bel := (Below.refl _ _).alloc (Nat.le_refl _) _, lob := At6B.new ws _ _ _ _ _ _ _, own := World.ownsRow_nil _ _ _ _, cuts := (fun s hs => by cases hs), lies := Lies.low w1, bare := rfl, few := Nat.zero_le _, len := Nat.le_refl _, lo10 := by omega, hi10 := by omega, ile := Nat.zero_le _ }
    have HEQ : Hid (sweepL m (rs.map REdge.edge) = ([] : List RSp).map RSp.sp ++ nextL m 0 rlow.cut ((rs.drop 0).map REdge.edge)) := sweepL_next m _
    clear HS hp hpw ho hg
    go_wp2
    go_step3
    rename_i hK
    exact hK _ _ (HP.out _ _ (SwJ0.mk ws rs 0 0 (.slice none 0 0) [] rlow HFX.out HAT.out HEQ.out rfl))
end Go.Proofs.YtgfbflnhjpbceaaGreatDoor.Span

namespace Go.Proofs.YtgfbflnhjpbceaaGreatDoor.Span
open Go.RowKit Num Ident Semver Prec

/-- A slice of edges as a source: where it lies, if it isn't nil, it reads as the list. -/
def EdSrc (w : World) (v : Value) (re : List REdge) : Prop :=
  ∃ A c, v = .slice A re.length c ∧ (A = none → re = [] ∧ c = 0) ∧ ∀ ad, A = some ad → ad.block < w.heap.size ∧ ∀ j u, (re.flatMap REdge.vals)[j]? = some u → w.cell? (ad.add j) = some u
theorem EdSrc.kept {w w' : World} {v : Value} {re : List REdge} (h : EdSrc w v re) (hb : Below w.heap.size w w') : EdSrc w' v re := by
  obtain ⟨A, c, rfl, h1, h2⟩ := h
  refine ⟨A, c, rfl, h1, fun ad ha => ?_⟩
  obtain ⟨h3, h4⟩ := h2 ad ha
  refine ⟨Nat.lt_of_lt_of_le h3 hb.size, fun j u hu => ?_⟩
  rw [hb.cell (by unfold Addr.add; split <;> exact h3)]; exact h4 j u hu
theorem EdSrc.of_own {w : World} {base : Nat} {v : Value} {re : List REdge} (h : w.ownsRow base 111 7 v re.length (re.flatMap REdge.vals)) : EdSrc w v re := by
  have hcs := fun g => h.cells (g := g)
  have hlt := h.lt
  rcases h.2 with ⟨rfl, h0⟩ | ⟨g, cap, cur, rfl, _, hg, _⟩
  · have : re = [] := List.eq_nil_of_length_eq_zero h0
    subst this
    exact ⟨none, 0, rfl, fun _ => ⟨rfl, rfl⟩, fun ad ha => by cases ha⟩
  · refine ⟨_, cap, rfl, (fun e => by cases e), fun ad ha => ?_⟩
    injection ha with ha
    subst ha
    exact ⟨(hlt g rfl).2, fun j u hu => hcs g rfl j u hu⟩
theorem run_append_ed (w : World) (ty : TypeId) (base : Nat) (v : Value) (n : Nat) (l : List REdge) (hown : w.ownsRow base 111 7 v n (l.flatMap REdge.vals)) (x : Value) (r : List REdge) (hr : EdSrc w x r) (hb : (n + r.length) * 88 ≤ 140737488355328) (hbase : base ≤ w.heap.size) :
    ∃ v' w', (Builtin.append_ #[63, 63] ty #[v, x]).run Tryz.prog w = .ok v' w' ∧ w'.ownsRow base 111 7 v' (n + r.length) ((l ++ r).flatMap REdge.vals) ∧ w.grownBy w' v.ownBlock := by
  obtain ⟨i, hi, hz, hs, hby⟩ := info_parts edInfo
  obtain ⟨A, c, rfl, h1, h2⟩ := hr
  cases A with
  | none =>
    obtain ⟨rfl, rfl⟩ := h1 rfl
    exact ⟨v, w, run_append_owned_none (P := Tryz.prog) (w := w) base 63 ty 111 i 7 Tryz.underlying63 hi v n _ hown, by simpa using hown, World.grownBy.refl w _⟩
  | some ad =>
    obtain ⟨v', w', h3, h4, h5, _⟩ := run_append_own (P := Tryz.prog) w base 63 ty 111 i _ 7 88 Tryz.underlying63 hi hz hs hby rfl (by omega) v n _ hown ad r.length c (r.flatMap REdge.vals)
      (by rw [flat_len _ 7 evals_len]) (h2 ad rfl).2 (flat_one _ evals_one r) (by unfold maxLen; omega) hb hbase
    exact ⟨v', w', h3, by rw [List.flatMap_append]; exact h4, h5⟩
theorem wpList_append_eds (w : World) {ops : Array Oper} {rest : List Oper} {o : Oper} {a : Act} {Q : Exit → Act → World → Prop} (hgd : o.guard = none) (s x : Operand)
    (ho : o.op = .call { callee := .builtin .append, args := #[s, x], argTypes := #[63, 63] })
    (base : Nat) (v : Value) (n : Nat) (l : List REdge) (hs : a.eval s = v) (hown : w.ownsRow base 111 7 v n (l.flatMap REdge.vals)) (y : Value) (r : List REdge) (hx : a.eval x = y) (hr : EdSrc w y r) (hb : (n + r.length) * 88 ≤ 140737488355328) (hbase : base ≤ w.heap.size)
    (h : ∀ v' w', w'.ownsRow base 111 7 v' (n + r.length) ((l ++ r).flatMap REdge.vals) → Below base w w' → wpList Tryz.prog ops Q rest (a.put o.dst v') w') : wpList Tryz.prog ops Q (o :: rest) a w := by
  refine wpList_plain hgd fun K hK => ?_
  obtain ⟨v', w', hrun, h2, h3⟩ := run_append_ed w o.type base v n l hown y r hr hb hbase
  unfold Oper.wp execOp
  simp only [ho, resolve, invoke, builtin, Sem.run_bind, Sem.run_pure, Result.andThen_ok, List.map_toArray, List.map_cons, List.map_nil, hs, hx, hrun]
  exact hK _ _ (h v' w' h2 ((Below.refl base w).grown h3 hbase fun k hk => (hown.lt k hk).1))
/-- What Grow leaves of nil. -/
def GrowPost (w : World) (e : Ending) (w' : World) : Prop := ∃ v, e = .returned v ∧ w'.ownsRow w.heap.size 111 7 v 0 [] ∧ Below w.heap.size w w'
theorem grow_any (n : Nat) (w : World) (hn : n ≤ 1000000) : Calls Tryz.prog 122 #[.slice none 0 0, .int .i64 (n : Int)] w (GrowPost w) := by
  obtain ⟨i, hi, hz, hs, hby⟩ := info_parts edInfo
  by_cases h0 : n = 0
  · subst h0
    exact (Any8.slices_Grow_room Tryz.growL none 0 0 0 w (Nat.le_refl _) (by omega) (by omega) (Nat.le_refl _)).mono fun e w' ⟨he, hw⟩ => by
      subst hw; exact ⟨_, he, World.ownsRow_nil _ _ _ _, Below.refl _ _⟩
  · refine (Any8.slices_Grow_grow Tryz.growL i _ hi hz (by rw [hs]; omega) none 0 0 n [] w (Nat.le_refl _) (by omega) (by rw [hby]; omega) (by omega) (by simp) (fun _ => rfl) (fun a ha => by cases ha)).mono fun e w' ⟨he, hw⟩ => ?_
    have h1 := grownCap_ge w (0 + n) 0 111
    have h2 := grownCap_le_maxLen w (0 + n) 0 111 (by unfold maxLen; omega)
    refine ⟨_, he, ?_, ?_⟩
    · rw [hw]
      refine World.ownsRow_made (base := w.heap.size) (e := 111) (size := 7) w.drew _ _ (Nat.le_refl _) h2 ?_
      rw [Array.size_append, Array.size_append, size_zeroCells, size_zeroCells]
      show 0 + (0 + n - 0) * 7 + (grownCap w (0 + n) 0 111 - (0 + n)) * 7 = grownCap w (0 + n) 0 111 * 7
      omega
    · rw [hw]; exact ((Below.refl _ _).drew).alloc (Nat.le_refl _) _
/-- What Concat leaves. -/
def ConcatPost (w : World) (re : List REdge) (e : Ending) (w' : World) : Prop := ∃ v, e = .returned v ∧ w'.ownsRow w.heap.size 111 7 v re.length (re.flatMap REdge.vals) ∧ Below w.heap.size w w'
def upto (r1 r2 : List REdge) (k : Nat) : List REdge := if k = 0 then [] else if k = 1 then r1 else r1 ++ r2
def ConcatJ (w : World) (r1 r2 : List REdge) (v iv : Value) (W : World) : Prop :=
  ∃ k : Nat, k ≤ 2 ∧ iv = .int .i64 k ∧ W.ownsRow w.heap.size 111 7 v (upto r1 r2 k).length ((upto r1 r2 k).flatMap REdge.vals) ∧ Below w.heap.size w W

set_option maxRecDepth 100000 in
set_option maxHeartbeats 3200000 in
theorem concat_any (q : Nat) (v1 v2 : Value) (r1 r2 : List REdge) (w : World) (hq : q < w.heap.size) (c1 : w.cell? ⟨q, 0, none⟩ = some v1) (c2 : w.cell? ⟨q, 1, none⟩ = some v2) (s1 : EdSrc w v1 r1) (s2 : EdSrc w v2 r2) (h1 : r1.length ≤ 100000) (h2 : r2.length ≤ 100000) :
    Calls Tryz.prog 95 #[.slice (some ⟨q, 0, none⟩) 2 2] w (ConcatPost w (r1 ++ r2)) := by
  have S1 := Lib.hid s1
  have S2 := Lib.hid s2
  obtain ⟨A1, d1, rfl, _, _⟩ := s1
  obtain ⟨A2, d2, rfl, _, _⟩ := s2
  go_enter Tryz.func95, Tryz.ntmps95
  go_wp2
  go_loop [3, 11] (fun n i => ∃ k : Nat, k ≤ 2 ∧ i = .int .i64 k ∧ n = .int .i64 ((upto r1 r2 k).length : Int)) (fun _ i => 2 - (intOf i).toNat)
  case atStart => exact ⟨0, by omega, rfl, rfl⟩
  case round =>
    obtain ⟨k, hk, rfl, rfl⟩ := hrel
    obtain rfl | rfl | rfl : k = 0 ∨ k = 1 ∨ k = 2 := by omega
    · have e0 : (upto r1 r2 0).length = 0 := rfl
      rw [e0]
      go_wp2
      exact ⟨⟨1, by omega, rfl, rfl⟩, by simp [intOf]⟩
    · have e0 : (upto r1 r2 1).length = r1.length := rfl
      rw [e0]
      go_wp2
      exact ⟨⟨2, by omega, rfl, by show _ = Value.int .i64 (((r1 ++ r2).length : Nat) : Int); rw [List.length_append, Int.natCast_add]⟩, by simp [intOf]⟩
    · have e0 : (upto r1 r2 2).length = r1.length + r2.length := by show (r1 ++ r2).length = _; rw [List.length_append]
      rw [e0]
      have HG : Hid (Calls Tryz.prog 122 #[.slice none 0 0, .int .i64 ((r1.length : Int) + (r2.length : Int))] w (GrowPost w)) := by
        have := grow_any (r1.length + r2.length) w (by omega); rw [Int.natCast_add] at this; exact this
      clear e0
      go_wp2_with fail
      refine HG.out.mono ?_
      rintro e w1 ⟨v, rfl, ho, hb⟩
      have HO := Lib.hid ho
      have HB := Lib.hid hb
      clear ho hb HG
      go_wp2
      go_loopw [6, 27] (fun v i W => ConcatJ w r1 r2 v i W) (fun _ i _ => 2 - (intOf i).toNat)
      case atStart => exact ⟨0, by omega, rfl, HO.out, HB.out⟩
      case round =>
        obtain ⟨k, hk, rfl, hown, hbel⟩ := hrel
        have HO1 := Lib.hid hown
        have HB1 := Lib.hid hbel
        have hsz := hbel.size
        have T1 := Lib.hid (S1.out.kept hbel)
        have T2 := Lib.hid (S2.out.kept hbel)
        have x1 := (hbel.cell (p := ⟨q, 0, none⟩) hq).trans c1
        have x2 := (hbel.cell (p := ⟨q, 1, none⟩) hq).trans c2
        clear hown hbel HO HB
        obtain rfl | rfl | rfl : k = 0 ∨ k = 1 ∨ k = 2 := by omega
        · go_wp2_with (first
            | (at_builtin; refine wpList_append_eds _ rfl _ _ rfl w.heap.size _ 0 [] rfl HO1.out _ r1 rfl T1.out (by omega) hsz ?_; intro v4 w4 ho4 hb4; have HB4 := Lib.hid (HB1.out.trans hb4); have HO4 := Lib.hid ho4; clear ho4 hb4)
            | fail)
          refine ⟨⟨1, by omega, rfl, ?_, HB4.out⟩, by simp [intOf]⟩
          have := HO4.out
          rw [Nat.zero_add, List.nil_append] at this
          exact this
        · go_wp2_with (first
            | (at_builtin; refine wpList_append_eds _ rfl _ _ rfl w.heap.size _ r1.length r1 rfl HO1.out _ r2 rfl T2.out (by omega) hsz ?_; intro v4 w4 ho4 hb4; have HB4 := Lib.hid (HB1.out.trans hb4); have HO4 := Lib.hid ho4; clear ho4 hb4)
            | fail)
          refine ⟨⟨2, by omega, rfl, ?_, HB4.out⟩, by simp [intOf]⟩
          have := HO4.out
          rw [← List.length_append] at this
          exact this
        · go_wp2
          exact bodyPost_ret (v := u6) (by simp [results, Tryz.results95, go_sem]) rfl ⟨u6, rfl, HO1.out, HB1.out⟩
end Go.Proofs.YtgfbflnhjpbceaaGreatDoor.Span

namespace Go.Proofs.YtgfbflnhjpbceaaGreatDoor.Span
open Go.RowKit Num Ident Semver Prec

theorem right_of {l : List RSp} {step : Int} {re : List REdge} (h : re.map REdge.edge = edgesOf (l.map RSp.sp) step) : ∀ e ∈ re, right e.cut.cut = true := fun e he =>
  edgesOf_right (l.map RSp.sp) step e.edge (by rw [← h]; exact List.mem_map_of_mem he)
theorem step_of {l : List RSp} {step : Int} {re : List REdge} (h : re.map REdge.edge = edgesOf (l.map RSp.sp) step) (h1 : -10 ≤ step) (h2 : step ≤ 10) : ∀ e ∈ re, -10 ≤ e.step ∧ e.step ≤ 10 := fun e he => by
  have hm : e.edge ∈ edgesOf (l.map RSp.sp) step := by rw [← h]; exact List.mem_map_of_mem he
  have := edgesOf_step _ _ _ hm
  show -10 ≤ e.edge.step ∧ e.edge.step ≤ 10
  rcases this with h | h <;> rw [h] <;> omega
/-- How many spans a sweep closes: at most one for two edges. -/
theorem go_half (n : Int) : ∀ (l : List Edge) (cut : Cut) (was : Bool) (t : Int) (lo : Cut), 2 * (go n cut was t lo l).length ≤ l.length + (if was = true then 1 else 0)
  | [], _, _, _, _ => by rw [go]; simp
  | [e], cut, was, t, lo => by
    rw [go]
    by_cases h : was = true ∧ ¬ n ≤ t + e.step
    · rw [if_pos h, if_pos h.1]; simp
    · rw [if_neg h]; simp
  | e :: f :: r, cut, was, t, lo => by
    rw [go]
    by_cases h1 : stand cut f.cut = 0
    · rw [if_pos h1]
      have := go_half n (f :: r) cut was (t + e.step) lo
      rw [List.length_cons]; omega
    · rw [if_neg h1]
      by_cases h2 : n ≤ t + e.step ∧ was = false
      · rw [if_pos h2]
        have := go_half n (f :: r) f.cut true (t + e.step) cut
        rw [if_pos rfl] at this
        rw [h2.2, if_neg (by simp), List.length_cons]; omega
      · rw [if_neg h2]
        by_cases h3 : was = true ∧ ¬ n ≤ t + e.step
        · rw [if_pos h3, if_pos h3.1]
          have := go_half n (f :: r) f.cut false (t + e.step) lo
          rw [if_neg (by simp)] at this
          rw [List.length_cons, List.length_cons]; omega
        · rw [if_neg h3]
          have := go_half n (f :: r) f.cut was (t + e.step) lo
          rw [List.length_cons]; omega
theorem sweep_half {n : Int} (hn : 0 < n) (l : List Edge) : 2 * (sweepL n l).length ≤ l.length := by
  cases l with
  | nil => simp [sweepL]
  | cons e r =>
    unfold sweepL
    have := go_half n (e :: r) e.cut (decide (n ≤ 0)) 0 low
    rw [if_neg (by simp; omega)] at this
    exact this
/-- The rows of a span's versions lie in memory of the call's own, and have room for themselves. -/
def OwnsS (w : World) (B : Nat) (s : RSp) : Prop := OwnC w B s.lo ∧ OwnC w B s.hi
theorem OwnC.cap {w : World} {B : Nat} {r : RCut} (h : OwnC w B r) : r.v.pre.length ≤ r.c := by
  obtain ⟨A, c, e, hc, _⟩ := SRow.of_own h.own
  injection e with e1 e2 e3
  rw [e3]; exact hc
theorem OwnsS.kept {w w' : World} {B : Nat} {s : RSp} (h : OwnsS w B s) (hb : Below w.heap.size w w') : OwnsS w' B s := ⟨h.1.kept hb, h.2.kept hb⟩
theorem OwnsS.mono {w : World} {B B' : Nat} {s : RSp} (h : OwnsS w B s) (hB : B' ≤ B) : OwnsS w B' s := ⟨h.1.mono hB, h.2.mono hB⟩
theorem OwnsS.lies {w : World} {B : Nat} {s : RSp} (h : OwnsS w B s) : LiesS w s := ⟨h.1.lies, h.2.lies⟩
theorem OwnsS.grown {w w' : World} {B B2 : Nat} {s : RSp} {set : Value} {n : Nat} {xs : List Value} (h : OwnsS w B s) (hs : w.ownsRow B2 43 12 set n xs) (hg : w.grownBy w' set.ownBlock) : OwnsS w' B s := ⟨h.1.grown hs hg, h.2.grown hs hg⟩
/-- A set that was made, in more words. -/
def SetIn (w : World) (k : Nat) (P : List Sp → Prop) (e : Ending) (w' : World) : Prop :=
  ∃ (A : Option Addr) (n c : Nat) (out : List RSp), e = .returned (.slice A n c) ∧ SpRow w' A n out ∧ n ≤ k ∧ P (out.map RSp.sp) ∧ (∀ s ∈ out, OwnsS w' w.heap.size s) ∧ n ≤ c ∧ (A = none → c = 0) ∧ Below w.heap.size w w'
theorem setIn_of {w1 : World} {m : Int} {re0 : List REdge} {k : Nat} {P : List Sp → Prop} {e : Ending} {w' : World} (hm : 0 < m) (h : SweepPost w1 m re0 e w') (hn : re0.length ≤ 2 * k)
    (hP : ∀ l : List Edge, l.Perm (re0.map REdge.edge) → (l.Pairwise fun x y => stand x.cut y.cut ≤ 0) → P (sweepL m l)) : SetIn w1 k P e w' := by
  obtain ⟨B, set, out, re, rfl, hp, hs, hq, hB, ho, hc, hl, hb⟩ := h
  obtain ⟨A, c, rfl, hcap, hnil, hcell⟩ := own_cells svals_len ho rfl
  refine ⟨A, out.length, c, out, rfl, ⟨rfl, fun s hs => ⟨(hc s hs).1.lies, (hc s hs).2.lies⟩, fun h0 => ?_⟩, ?_, ?_, fun s hs => ⟨(hc s hs).1.mono hB, (hc s hs).2.mono hB⟩, hcap, hnil, hb⟩
  · obtain ⟨g, h1, _, h2, _, h3⟩ := hcell h0
    exact ⟨g, 0, h1, h2, h3⟩
  · have h1 := sweep_half hm (re.map REdge.edge)
    rw [← hq, List.length_map, List.length_map, hp.length_eq] at h1
    omega
  · rw [hq]; exact hP _ (hp.map _) (List.pairwise_map.2 hs)
theorem SetIn.mono {w w1 : World} {k : Nat} {P : List Sp → Prop} {e : Ending} {w' : World} (h : SetIn w1 k P e w') (hb : Below w.heap.size w w1) : SetIn w k P e w' := by
  obtain ⟨A, n, c, out, h1, h2, h3, h4, h5, h6, h7, h8⟩ := h
  exact ⟨A, n, c, out, h1, h2, h3, h4, fun s hs => (h5 s hs).mono hb.size, h6, h7, hb.trans (h8.mono hb.size)⟩
theorem edges_out {w : World} {l : List RSp} {step : Int} {e : Ending} {w' : World} (h : EdgesPost w l step e w') : ∃ (A : Option Addr) (c : Nat) (re : List REdge), e = .returned (.slice A re.length c) ∧ w'.ownsRow w.heap.size 111 7 (.slice A re.length c) re.length (re.flatMap REdge.vals) ∧ re.map REdge.edge = edgesOf (l.map RSp.sp) step ∧ (∀ e ∈ re, Lies w e.cut) ∧ re.length ≤ 2 * l.length ∧ Below w.heap.size w w' := by
  obtain ⟨v, re, rfl, h1, h2, h3, h4, h5⟩ := h
  obtain ⟨A, c, rfl, _⟩ := own_cells evals_len h1 rfl
  exact ⟨A, c, re, rfl, h1, h2, h3, h4, h5⟩
def NormalOf (l : List Sp) (o : List Sp) : Prop := Norm o ∧ ∀ c, inS o c ↔ inR l c

set_option maxRecDepth 100000 in
set_option maxHeartbeats 1600000 in
theorem normal_in (A : Option Addr) (n c : Nat) (l : List RSp) (w : World) (hr : SpRow w A n l) (hn : n ≤ 5000) :
    Calls Tryz.prog 23 #[.slice A n c] w (SetIn w n (NormalOf (l.map RSp.sp))) := by
  have HR := Lib.hid hr
  have HL := Lib.hid hr.1
  clear hr
  go_enter Tryz.func23, Tryz.ntmps23
  go_wp2_with fail
  refine (edges_any A n c l 1 _ HR.out (by omega) (by omega) (by omega)).mono ?_
  intro e w1 h1
  obtain ⟨A1, c1, re, rfl, ho, hm, hl, hk, hb⟩ := edges_out h1
  have HO := Lib.hid ho
  have HM := Lib.hid hm
  have HI := Lib.hid hl
  have HB := Lib.hid hb
  have hk2 : re.length ≤ 2 * n := by rw [HL.out] at hk; omega
  clear ho hm hl hb h1 hk
  go_wp2_with fail
  refine (atLeast_any 1 _).mono ?_
  rintro e w2 ⟨rfl, rfl⟩
  go_wp2_with fail
  refine (sweep_any w _ w.heap.size _ re w1.heap.size 1 (HO.out.alloc _) HI.out (HB.out.alloc HB.out.size _) (Nat.le_refl _) (by simp) (by simp [go_sem]) (fun h => by have := (HO.out.lt _ h).2; omega) (right_of HM.out) (step_of HM.out (by omega) (by omega)) (by omega)).mono ?_
  intro e w3 h3
  have HS := Lib.hid (setIn_of (P := NormalOf (l.map RSp.sp)) (by omega) h3 hk2 (fun E hp hs => by
    rw [HM.out] at hp
    have hr : ∀ e ∈ E, right e.cut = true := fun e he => edgesOf_right _ _ e (hp.mem_iff.1 he)
    obtain ⟨k1, k2⟩ := sweep_norm (n := 1) (by omega) hs hr (by rw [total_perm hp, edgesOf_total]; omega)
    refine ⟨k1, fun c => (k2 c).trans ?_⟩
    rw [cov_perm hp, edgesOf_cov, ← times_pos]; omega))
  obtain ⟨A3, n3, c3, out, rfl, q1, q2, q3, q4, q5, q6, q7⟩ := HS.out
  clear h3
  go_wp2
  go_ret
  exact HS.out

theorem two_sets {m s1 s2 : Int} (hm : 0 < m) {l1 l2 : List Sp} {E : List Edge} (hp : E.Perm (edgesOf l1 s1 ++ edgesOf l2 s2)) (hs : E.Pairwise fun x y => stand x.cut y.cut ≤ 0) :
    Norm (sweepL m E) ∧ ∀ c, inS (sweepL m E) c ↔ m ≤ s1 * (times l1 c : Int) + s2 * (times l2 c : Int) := by
  have hr : ∀ e ∈ E, right e.cut = true := fun e he => by
    rcases List.mem_append.1 (hp.mem_iff.1 he) with h | h
    · exact edgesOf_right _ _ e h
    · exact edgesOf_right _ _ e h
  obtain ⟨k1, k2⟩ := sweep_norm hm hs hr (by rw [total_perm hp, total_append, edgesOf_total, edgesOf_total]; omega)
  refine ⟨k1, fun c => (k2 c).trans ?_⟩
  rw [cov_perm hp, cov_append, edgesOf_cov, edgesOf_cov]
def UnionOf (a b : List Sp) (o : List Sp) : Prop := Norm o ∧ ∀ c, inS o c ↔ inR a c ∨ inR b c
def NotOf (l : List Sp) (o : List Sp) : Prop := Norm o ∧ ∀ c, inS o c ↔ inOne ⟨low, high⟩ c ∧ ¬ inR l c
theorem union_of {a b : List Sp} {E : List Edge} (hp : E.Perm (edgesOf a 1 ++ edgesOf b 1)) (hs : E.Pairwise fun x y => stand x.cut y.cut ≤ 0) : UnionOf a b (sweepL 1 E) := by
  obtain ⟨h1, h2⟩ := two_sets (m := 1) (by omega) hp hs
  refine ⟨h1, fun c => (h2 c).trans ?_⟩
  rw [← times_pos, ← times_pos]; omega
theorem all_norm : Norm [⟨low, high⟩] := ⟨fun s hs => by rw [List.mem_singleton] at hs; subst hs; exact (cnt_iff _).2 ⟨low_right, high_right, low_high⟩, List.pairwise_singleton _ _⟩
theorem not_of {l : List Sp} {E : List Edge} (hp : E.Perm (edgesOf [⟨low, high⟩] 1 ++ edgesOf l (-1))) (hs : E.Pairwise fun x y => stand x.cut y.cut ≤ 0) : NotOf l (sweepL 1 E) := by
  obtain ⟨h1, h2⟩ := two_sets (m := 1) (by omega) hp hs
  refine ⟨h1, fun c => (h2 c).trans ?_⟩
  have e : inOne ⟨low, high⟩ c ↔ 1 ≤ times [⟨low, high⟩] c := by
    rw [times_pos, all_norm.inR]
    exact ⟨fun h => ⟨_, List.mem_singleton.2 rfl, h⟩, fun ⟨s, hs, h⟩ => by rw [List.mem_singleton] at hs; subst hs; exact h⟩
  rw [e, ← times_pos]
  have := all_norm.once c
  omega

/-- A new block of one span. -/
theorem SpRow.one (w : World) (s : RSp) (h : LiesS w s) : SpRow (w.alloc (.cells s.vals.toArray 43)) (some ⟨w.heap.size, 0, none⟩) 1 [s] := by
  refine ⟨rfl, fun x hx => ?_, fun _ => ⟨w.heap.size, 0, rfl, by simp, fun j hj i v hv => ?_⟩⟩
  · rw [List.mem_singleton] at hx; subst hx; exact h.kept ((Below.refl _ _).alloc (Nat.le_refl _) _)
  · obtain rfl : j = 0 := by omega
    have := news_new w s.vals 43 i v hv
    rw [add_none] at this
    simpa using this

set_option maxRecDepth 100000 in
set_option maxHeartbeats 3200000 in
theorem not_in (A : Option Addr) (n c : Nat) (l : List RSp) (w : World) (hr : SpRow w A n l) (hn : n ≤ 5000) :
    Calls Tryz.prog 58 #[.slice A n c] w (SetIn w (1 + n) (NotOf (l.map RSp.sp))) := by
  have HB0 : Hid (Below w.heap.size w (w.alloc (.cells #[.int .i64 0, .int .u64 0, .int .u64 0, .int .u64 0, .slice none 0 0, .slice none 0 0, .int .i64 3, .int .u64 0, .int .u64 0, .int .u64 0, .slice none 0 0, .slice none 0 0] 43))) := (Below.refl _ _).alloc (Nat.le_refl _) _
  have HR0 : Hid (SpRow (w.alloc (.cells #[.int .i64 0, .int .u64 0, .int .u64 0, .int .u64 0, .slice none 0 0, .slice none 0 0, .int .i64 3, .int .u64 0, .int .u64 0, .int .u64 0, .slice none 0 0, .slice none 0 0] 43)) (some ⟨w.heap.size, 0, none⟩) 1 [⟨rlow, rhigh⟩]) := SpRow.one w ⟨rlow, rhigh⟩ ⟨Lies.low _, Lies.high _⟩
  have HR := Lib.hid (hr.kept HB0.out)
  have HL := Lib.hid hr.1
  clear hr
  go_enter Tryz.func58, Tryz.ntmps58
  go_upto_region 2 with (fail)
  generalize w.alloc (.cells #[.int .i64 0, .int .u64 0, .int .u64 0, .int .u64 0, .slice none 0 0, .slice none 0 0, .int .i64 3, .int .u64 0, .int .u64 0, .int .u64 0, .slice none 0 0, .slice none 0 0] 43) = w0 at HB0 HR0 HR ⊢
  go_wp2_with fail
  refine (edges_any _ 1 _ [⟨rlow, rhigh⟩] 1 _ HR0.out (by omega) (by omega) (by omega)).mono ?_
  intro e w1 h1
  obtain ⟨A1, c1, re1, rfl, ho, hm, hl, hk1, hb⟩ := edges_out h1
  have HO1 := Lib.hid ho
  have HM1 := Lib.hid hm
  have HI1 := Lib.hid hl
  have HB1 := Lib.hid (HB0.out.trans (hb.mono HB0.out.size))
  have HC1 := Lib.hid hb
  clear ho hm hl hb h1
  go_wp2_with fail
  refine (edges_any _ n _ l (-1) _ (HR.out.kept HC1.out) (by omega) (by omega) (by omega)).mono ?_
  intro e w2 h2
  obtain ⟨A2, c2, re2, rfl, ho, hm, hl, hk2, hb⟩ := edges_out h2
  have HO2 := Lib.hid ho
  have HM2 := Lib.hid hm
  have HI2 := Lib.hid hl
  have HB2 := Lib.hid (HB1.out.trans (hb.mono HB1.out.size))
  have HC2 := Lib.hid hb
  clear ho hm hl hb h2
  have hka : re1.length ≤ 2 := by simpa using hk1
  have hkb : re2.length ≤ 2 * n := by rw [HL.out] at hk2; omega
  have hkk : (re1 ++ re2).length ≤ 2 + 2 * n := by rw [List.length_append]; omega
  have AQ := Lib.hid ((Below.refl w2.heap.size w2).alloc (Nat.le_refl _) (.cells #[.slice A1 re1.length c1, .slice A2 re2.length c2] 63))
  have X1 := Lib.hid (own_below HO1.out HC2.out)
  have S1 := Lib.hid ((EdSrc.of_own X1.out).kept AQ.out)
  have S2 := Lib.hid ((EdSrc.of_own HO2.out).kept AQ.out)
  have BQ := Lib.hid (HB2.out.trans (AQ.out.mono HB2.out.size))
  have IQ : Hid (∀ e ∈ re1 ++ re2, Lies (w2.alloc (.cells #[.slice A1 re1.length c1, .slice A2 re2.length c2] 63)) e.cut) := fun e he => by
    rcases List.mem_append.1 he with he | he
    · exact (((HI1.out e he).kept HC1.out).kept HC2.out).kept AQ.out
    · exact ((HI2.out e he).kept HC2.out).kept AQ.out
  have HMM := Lib.hid ((List.map_append (f := REdge.edge) (l₁ := re1) (l₂ := re2)).trans (congr (congrArg _ HM1.out) HM2.out))
  have HRR : Hid (∀ e ∈ re1 ++ re2, right e.cut.cut = true) := fun e he => (List.mem_append.1 he).elim (right_of HM1.out e) (right_of HM2.out e)
  have HST : Hid (∀ e ∈ re1 ++ re2, -10 ≤ e.step ∧ e.step ≤ 10) := fun e he => (List.mem_append.1 he).elim (step_of HM1.out (by omega) (by omega) e) (step_of HM2.out (by omega) (by omega) e)
  go_wp2_with fail
  refine (concat_any w2.heap.size _ _ re1 re2 _ (by simp) (by simp [go_sem]) (by simp [go_sem]) S1.out S2.out (by omega) (by omega)).mono ?_
  rintro e w8 ⟨v8, rfl, ho8, hb8⟩
  generalize re1 ++ re2 = rr at ho8 hkk IQ HMM HRR HST
  obtain ⟨A8, c8, rfl, _⟩ := own_cells evals_len ho8 rfl
  have O8 := Lib.hid ho8
  have B8 := Lib.hid hb8
  clear ho8 hb8
  generalize (w2.alloc (.cells #[.slice A1 re1.length c1, .slice A2 re2.length c2] 63)) = WQ at BQ IQ O8 B8
  go_wp2_with fail
  refine (atLeast_any 1 _).mono ?_
  rintro e w9 ⟨rfl, rfl⟩
  go_wp2_with fail
  refine (sweep_any WQ _ WQ.heap.size _ rr w8.heap.size 1 (O8.out.alloc _) IQ.out (B8.out.alloc B8.out.size _) (Nat.le_refl _) (by simp) (by simp [go_sem]) (fun h => by have := (O8.out.lt _ h).2; omega) HRR.out HST.out (by omega)).mono ?_
  intro e wz hz
  have HS := Lib.hid ((setIn_of (P := NotOf (l.map RSp.sp)) (k := 1 + n) (by omega) hz (by omega) (fun E hp hs => by
    rw [HMM.out] at hp
    exact not_of hp hs)).mono BQ.out)
  obtain ⟨A3, n3, c3, out, rfl, q1, q2, q3, q4, q5, q6, q7⟩ := HS.out
  clear hz
  go_wp2
  go_ret
  exact HS.out
end Go.Proofs.YtgfbflnhjpbceaaGreatDoor.Span

namespace Go.Proofs.YtgfbflnhjpbceaaGreatDoor.Span
open Go.RowKit Num Ident Semver Prec

/-- Does a span have what lies between two cuts? -/
def hasOne (a b : Cut) (s : Sp) : Bool := decide (cmpC s.lo a ≤ 0) && decide (0 ≤ cmpC s.hi b)

set_option maxRecDepth 100000 in
set_option maxHeartbeats 3200000 in
theorem has1_any (s : RSp) (ra rb : RCut) (p1 p2 : Nat) (w : World) (h : LiesS w s) (k1 : At6B w p1 (.int .i64 ra.kind) (.int .u64 (ra.v.a : Int)) (.int .u64 (ra.v.b : Int)) (.int .u64 (ra.v.c : Int)) (.slice ra.A ra.v.pre.length ra.c) (.slice ra.B ra.v.build.length ra.d)) (k2 : At6B w p2 (.int .i64 rb.kind) (.int .u64 (rb.v.a : Int)) (.int .u64 (rb.v.b : Int)) (.int .u64 (rb.v.c : Int)) (.slice rb.A rb.v.pre.length rb.c) (.slice rb.B rb.v.build.length rb.d)) (h1 : Lies w ra) (h2 : Lies w rb) :
    Calls Tryz.prog 74 #[.agg #[.int .i64 s.lo.kind, .int .u64 (s.lo.v.a : Int), .int .u64 (s.lo.v.b : Int), .int .u64 (s.lo.v.c : Int), .slice s.lo.A s.lo.v.pre.length s.lo.c, .slice s.lo.B s.lo.v.build.length s.lo.d, .int .i64 s.hi.kind, .int .u64 (s.hi.v.a : Int), .int .u64 (s.hi.v.b : Int), .int .u64 (s.hi.v.c : Int), .slice s.hi.A s.hi.v.pre.length s.hi.c, .slice s.hi.B s.hi.v.build.length s.hi.d], .pointer (some ⟨p1, 0, none⟩), .pointer (some ⟨p2, 0, none⟩)] w fun e w' => e = .returned (.bool (hasOne ra.cut rb.cut s.sp)) ∧ Below w.heap.size w w' := by
  have HBa : Hid (Below w.heap.size w (w.alloc (.cells #[.int .i64 s.lo.kind, .int .u64 (s.lo.v.a : Int), .int .u64 (s.lo.v.b : Int), .int .u64 (s.lo.v.c : Int), .slice s.lo.A s.lo.v.pre.length s.lo.c, .slice s.lo.B s.lo.v.build.length s.lo.d, .int .i64 s.hi.kind, .int .u64 (s.hi.v.a : Int), .int .u64 (s.hi.v.b : Int), .int .u64 (s.hi.v.c : Int), .slice s.hi.A s.hi.v.pre.length s.hi.c, .slice s.hi.B s.hi.v.build.length s.hi.d] 43))) := (Below.refl _ _).alloc (Nat.le_refl _) _
  have HL := Lib.hid (h.kept HBa.out)
  have HA := Lib.hid (h1.kept HBa.out)
  have HB := Lib.hid (h2.kept HBa.out)
  have K0 : Hid (At12B (w.alloc (.cells #[.int .i64 s.lo.kind, .int .u64 (s.lo.v.a : Int), .int .u64 (s.lo.v.b : Int), .int .u64 (s.lo.v.c : Int), .slice s.lo.A s.lo.v.pre.length s.lo.c, .slice s.lo.B s.lo.v.build.length s.lo.d, .int .i64 s.hi.kind, .int .u64 (s.hi.v.a : Int), .int .u64 (s.hi.v.b : Int), .int .u64 (s.hi.v.c : Int), .slice s.hi.A s.hi.v.pre.length s.hi.c, .slice s.hi.B s.hi.v.build.length s.hi.d] 43)) w.heap.size (.int .i64 s.lo.kind) (.int .u64 (s.lo.v.a : Int)) (.int .u64 (s.lo.v.b : Int)) (.int .u64 (s.lo.v.c : Int)) (.slice s.lo.A s.lo.v.pre.length s.lo.c) (.slice s.lo.B s.lo.v.build.length s.lo.d) (.int .i64 s.hi.kind) (.int .u64 (s.hi.v.a : Int)) (.int .u64 (s.hi.v.b : Int)) (.int .u64 (s.hi.v.c : Int)) (.slice s.hi.A s.hi.v.pre.length s.hi.c) (.slice s.hi.B s.hi.v.build.length s.hi.d)) := At12B.new w _ _ _ _ _ _ _ _ _ _ _ _ _
  have Y0 := Lib.hid (k1.kept HBa.out k1.1)
  have Z0 := Lib.hid (k2.kept HBa.out k2.1)
  clear h h1 h2 k1 k2
  have HF : Hid (hasOne ra.cut rb.cut s.sp = (decide (cmpC s.lo.cut ra.cut ≤ 0) && decide (0 ≤ cmpC s.hi.cut rb.cut))) := rfl
  go_enter Tryz.func74, Tryz.ntmps74
  go_upto_region 1 with (fail)
  generalize (w.alloc (.cells #[.int .i64 s.lo.kind, .int .u64 (s.lo.v.a : Int), .int .u64 (s.lo.v.b : Int), .int .u64 (s.lo.v.c : Int), .slice s.lo.A s.lo.v.pre.length s.lo.c, .slice s.lo.B s.lo.v.build.length s.lo.d, .int .i64 s.hi.kind, .int .u64 (s.hi.v.a : Int), .int .u64 (s.hi.v.b : Int), .int .u64 (s.hi.v.c : Int), .slice s.hi.A s.hi.v.pre.length s.hi.c, .slice s.hi.B s.hi.v.build.length s.hi.d] 43)) = W at HBa HL HA HB K0 Y0 Z0 ⊢
  obtain ⟨hz, _, x0, x1, x2, x3, x4, x5, x6, x7, x8, x9, x10, x11⟩ := K0.out
  obtain ⟨hy, _, y0, y1, y2, y3, y4, y5⟩ := Y0.out
  go_wp2_with fail
  refine (compareC_any s.lo ra _ HL.out.lo HA.out).mono ?_
  rintro e w1 ⟨rfl, hb1⟩
  have K1 := Lib.hid (K0.out.kept hb1 hz)
  have Z1 := Lib.hid (Z0.out.kept hb1 Z0.out.1)
  have L1 := Lib.hid (HL.out.kept hb1)
  have M1 := Lib.hid (HB.out.kept hb1)
  have B1 := Lib.hid (HBa.out.trans (hb1.mono HBa.out.size))
  clear hb1 hz hy x0 x1 x2 x3 x4 x5 x6 x7 x8 x9 x10 x11 y0 y1 y2 y3 y4 y5
  obtain ⟨hz1, _, x0, x1, x2, x3, x4, x5, x6, x7, x8, x9, x10, x11⟩ := K1.out
  obtain ⟨_, _, z0, z1, z2, z3, z4, z5⟩ := Z1.out
  generalize cmpC s.lo.cut ra.cut = c1 at HF ⊢
  by_cases hc : c1 ≤ 0
  · have hd : decide (c1 ≤ 0) = true := decide_eq_true hc
    go_wp2_with fail
    refine (compareC_any s.hi rb _ L1.out.hi M1.out).mono ?_
    rintro e w2 ⟨rfl, hb2⟩
    have B2 := Lib.hid (B1.out.trans (hb2.mono B1.out.size))
    clear hb2 x0 x1 x2 x3 x4 x5 x6 x7 x8 x9 x10 x11 z0 z1 z2 z3 z4 z5
    generalize cmpC s.hi.cut rb.cut = c2 at HF ⊢
    by_cases hc2 : 0 ≤ c2
    · have HF2 : Hid (hasOne ra.cut rb.cut s.sp = true) := by have := HF.out; unfold Hid; rw [this]; simp [hc, hc2]
      clear HF
      go_wp2
      go_ret
      exact ⟨by rw [HF2.out]; rfl, B2.out⟩
    · have HF2 : Hid (hasOne ra.cut rb.cut s.sp = false) := by have := HF.out; unfold Hid; rw [this]; simp [hc]; omega
      have hd2 : decide (0 ≤ c2) = false := decide_eq_false hc2
      clear HF
      go_wp2
      go_ret
      exact ⟨by rw [HF2.out]; rfl, B2.out⟩
  · have HF2 : Hid (hasOne ra.cut rb.cut s.sp = false) := by have := HF.out; unfold Hid; rw [this, decide_eq_false hc]; rfl
    have hd : decide (c1 ≤ 0) = false := decide_eq_false hc
    clear HF
    go_wp2
    go_ret
    exact ⟨by rw [HF2.out]; rfl, B1.out⟩

/-- A span whose versions lie in a world. -/
structure LaidS (w : World) where
  s : RSp
  h : LiesS w s
instance (w : World) : Inhabited (LaidS w) := ⟨⟨⟨rlow, rlow⟩, ⟨Lies.low w, Lies.low w⟩⟩⟩
set_option maxRecDepth 100000 in
set_option maxHeartbeats 800000 in
theorem index_none (P : Option Addr) (c : Nat) (f : Value) (w : World) : Calls Tryz.prog 106 #[.slice P 0 c, f] w fun e w' => e = .returned (.int .i64 (-1)) ∧ w = w' := by
  go_enter Tryz.func106, Tryz.ntmps106
  go_wp2
  go_loop [5, 8] (fun _ i => i = .int .i64 0) (fun _ _ => 0)
  case atStart => rfl
  case round =>
    subst hrel
    go_wp2
    go_ret
    exact ⟨rfl, rfl⟩
set_option maxRecDepth 100000 in
set_option maxHeartbeats 800000 in
theorem contains_none (P : Option Addr) (c : Nat) (f : Value) (w : World) : Calls Tryz.prog 73 #[.slice P 0 c, f] w fun e w' => e = .returned (.bool false) ∧ w = w' := by
  go_enter Tryz.func73, Tryz.ntmps73
  go_wp2_with fail
  refine (index_none _ _ _ _).mono ?_
  rintro e w' ⟨rfl, rfl⟩
  go_wp2
  go_ret
  exact ⟨rfl, rfl⟩
theorem contains_any (P : Option Addr) (n c : Nat) (l : List RSp) (p1 p2 : Nat) (ra rb : RCut) (w : World) (hr : SpRow w P n l) (hn : n ≤ 100000) (k1 : At6B w p1 (.int .i64 ra.kind) (.int .u64 (ra.v.a : Int)) (.int .u64 (ra.v.b : Int)) (.int .u64 (ra.v.c : Int)) (.slice ra.A ra.v.pre.length ra.c) (.slice ra.B ra.v.build.length ra.d)) (k2 : At6B w p2 (.int .i64 rb.kind) (.int .u64 (rb.v.a : Int)) (.int .u64 (rb.v.b : Int)) (.int .u64 (rb.v.c : Int)) (.slice rb.A rb.v.pre.length rb.c) (.slice rb.B rb.v.build.length rb.d)) (h1 : Lies w ra) (h2 : Lies w rb) :
    Calls Tryz.prog 73 #[.slice P n c, .func (.func 74) #[] #[.pointer (some ⟨p1, 0, none⟩), .pointer (some ⟨p2, 0, none⟩)]] w fun e w' => e = .returned (.bool ((l.map RSp.sp).any (hasOne ra.cut rb.cut))) ∧ Below w.heap.size w w' := by
  obtain ⟨hl, hlie, hc⟩ := hr
  rcases Nat.eq_zero_or_pos n with h0 | h0
  · subst h0
    obtain rfl : l = [] := List.eq_nil_of_length_eq_zero hl
    exact (contains_none P c _ w).mono fun e w' ⟨he, hw⟩ => ⟨he, by subst hw; exact Below.refl _ _⟩
  · obtain ⟨b, o, rfl, hb, hcell⟩ := hc h0
    obtain ⟨zs, hz⟩ : ∃ zs : List (LaidS w), zs.map LaidS.s = l := ⟨l.pmap (fun s h => (⟨s, h⟩ : LaidS w)) hlie, by simp [List.map_pmap]⟩
    have hzl : zs.length = n := by rw [← hl, ← hz, List.length_map]
    have hp : PredBelow Tryz.prog 74 #[.pointer (some ⟨p1, 0, none⟩), .pointer (some ⟨p2, 0, none⟩)] (fun x : LaidS w => .agg x.s.vals.toArray) (fun x => hasOne ra.cut rb.cut x.s.sp) w := by
      intro W x hB
      exact (has1_any x.s ra rb p1 p2 W (x.h.kept hB) (k1.kept hB k1.1) (k2.kept hB k2.1) (h1.kept hB) (h2.kept hB)).mono fun e w' ⟨he, hb'⟩ => ⟨he, hB.trans (hb'.mono hB.size)⟩
    have hcon := AnyQ.slices_ContainsFunc Tryz.hasL 12 Tryz.isAgg43 Tryz.sizeOf43 (fun x : LaidS w => x.s.vals) (fun _ => rfl) (fun x => hasOne ra.cut rb.cut x.s.sp) 74 #[.pointer (some ⟨p1, 0, none⟩), .pointer (some ⟨p2, 0, none⟩)] (enters_of Tryz.func74 (by kernel_rfl) rfl) b o n c zs w hp (by rw [hzl]; exact Nat.le_refl _) (by omega) hb
      (fun j hj i v hv => hcell j (by omega) i v (by
        have e : l.getD j default = zs[j]!.s := by
          rw [getElem!_pos zs j hj, ← hz]; simp [List.getD, hj]
        rw [e]; exact hv))
    refine hcon.mono fun e w' ⟨he, hb'⟩ => ⟨?_, hb'⟩
    rw [he, List.take_of_length_le (by rw [hzl]; exact Nat.le_refl _), ← hz, List.map_map, List.any_map]; rfl

set_option maxRecDepth 100000 in
set_option maxHeartbeats 3200000 in
theorem has_any (P : Option Addr) (n c : Nat) (l : List RSp) (v : Ver) (A : Option Addr) (cA : Nat) (B : Option Addr) (cB : Nat) (w : World) (hr : SpRow w P n l) (hn : n ≤ 100000) (h1 : SRow w A v.pre.length v.pre) (hf : Fit v.pre) :
    Calls Tryz.prog 38 #[.slice P n c, .agg #[.int .u64 (v.a : Int), .int .u64 (v.b : Int), .int .u64 (v.c : Int), .slice A v.pre.length cA, .slice B v.build.length cB]] w fun e w' => e = .returned (.bool ((l.map RSp.sp).any (hasOne (aheadOf v) (behindOf v)))) ∧ Below w.heap.size w w' := by
  have HR := Lib.hid hr
  have HS := Lib.hid h1
  have HF := Lib.hid hf
  clear hr h1 hf
  generalize hg : (l.map RSp.sp).any (hasOne (aheadOf v) (behindOf v)) = g
  have HG := Lib.hid hg
  clear hg
  go_enter Tryz.func38, Tryz.ntmps38
  go_upto_region 2 with (fail)
  go_region
  · have HB : Hid (Below w.heap.size w (((w.alloc (.cells #[.int .u64 (v.a : Int), .int .u64 (v.b : Int), .int .u64 (v.c : Int), .slice A v.pre.length cA, .slice none 0 0] 25)).alloc (.cells #[.int .i64 1, .int .u64 (v.a : Int), .int .u64 (v.b : Int), .int .u64 (v.c : Int), .slice A v.pre.length cA, .slice none 0 0] 41)).alloc (.cells #[.int .i64 2, .int .u64 (v.a : Int), .int .u64 (v.b : Int), .int .u64 (v.c : Int), .slice A v.pre.length cA, .slice none 0 0] 41)).drew) := (((((Below.refl _ _).alloc (Nat.le_refl _) _).alloc (by simp) _).alloc (by simp; omega) _)).drew
    have Q1 : Hid (At6B (((w.alloc (.cells #[.int .u64 (v.a : Int), .int .u64 (v.b : Int), .int .u64 (v.c : Int), .slice A v.pre.length cA, .slice none 0 0] 25)).alloc (.cells #[.int .i64 1, .int .u64 (v.a : Int), .int .u64 (v.b : Int), .int .u64 (v.c : Int), .slice A v.pre.length cA, .slice none 0 0] 41)).alloc (.cells #[.int .i64 2, .int .u64 (v.a : Int), .int .u64 (v.b : Int), .int .u64 (v.c : Int), .slice A v.pre.length cA, .slice none 0 0] 41)).drew (w.heap.size + 1) (.int .i64 1) (.int .u64 (v.a : Int)) (.int .u64 (v.b : Int)) (.int .u64 (v.c : Int)) (.slice A v.pre.length cA) (.slice none 0 0)) := by
      have q := (At6B.new (w.alloc (.cells #[.int .u64 (v.a : Int), .int .u64 (v.b : Int), .int .u64 (v.c : Int), .slice A v.pre.length cA, .slice none 0 0] 25)) 41 (.int .i64 1) (.int .u64 (v.a : Int)) (.int .u64 (v.b : Int)) (.int .u64 (v.c : Int)) (.slice A v.pre.length cA) (.slice none 0 0)).kept ((Below.refl _ _).alloc (Nat.le_refl _) (.cells #[.int .i64 2, .int .u64 (v.a : Int), .int .u64 (v.b : Int), .int .u64 (v.c : Int), .slice A v.pre.length cA, .slice none 0 0] 41)) (by simp)
      rw [size_alloc] at q; exact q
    have Q2 : Hid (At6B (((w.alloc (.cells #[.int .u64 (v.a : Int), .int .u64 (v.b : Int), .int .u64 (v.c : Int), .slice A v.pre.length cA, .slice none 0 0] 25)).alloc (.cells #[.int .i64 1, .int .u64 (v.a : Int), .int .u64 (v.b : Int), .int .u64 (v.c : Int), .slice A v.pre.length cA, .slice none 0 0] 41)).alloc (.cells #[.int .i64 2, .int .u64 (v.a : Int), .int .u64 (v.b : Int), .int .u64 (v.c : Int), .slice A v.pre.length cA, .slice none 0 0] 41)).drew (w.heap.size + 1 + 1) (.int .i64 2) (.int .u64 (v.a : Int)) (.int .u64 (v.b : Int)) (.int .u64 (v.c : Int)) (.slice A v.pre.length cA) (.slice none 0 0)) := by
      have q := At6B.new ((w.alloc (.cells #[.int .u64 (v.a : Int), .int .u64 (v.b : Int), .int .u64 (v.c : Int), .slice A v.pre.length cA, .slice none 0 0] 25)).alloc (.cells #[.int .i64 1, .int .u64 (v.a : Int), .int .u64 (v.b : Int), .int .u64 (v.c : Int), .slice A v.pre.length cA, .slice none 0 0] 41)) 41 (.int .i64 2) (.int .u64 (v.a : Int)) (.int .u64 (v.b : Int)) (.int .u64 (v.c : Int)) (.slice A v.pre.length cA) (.slice none 0 0)
      rw [size_alloc, size_alloc] at q; exact q
    generalize (((w.alloc (.cells #[.int .u64 (v.a : Int), .int .u64 (v.b : Int), .int .u64 (v.c : Int), .slice A v.pre.length cA, .slice none 0 0] 25)).alloc (.cells #[.int .i64 1, .int .u64 (v.a : Int), .int .u64 (v.b : Int), .int .u64 (v.c : Int), .slice A v.pre.length cA, .slice none 0 0] 41)).alloc (.cells #[.int .i64 2, .int .u64 (v.a : Int), .int .u64 (v.b : Int), .int .u64 (v.c : Int), .slice A v.pre.length cA, .slice none 0 0] 41)).drew = W at HB Q1 Q2 ⊢
    have HV : Hid (SRow W A v.pre.length v.pre) := HS.out.kept HB.out
    go_wp2_with fail
    refine (contains_any P n c l _ _ ⟨1, bare v, A, cA, none, 0⟩ ⟨2, bare v, A, cA, none, 0⟩ _ (HR.out.kept HB.out) hn Q1.out Q2.out ⟨HV.out, SRow.none_ _ _, HF.out, Fit.nil⟩ ⟨HV.out, SRow.none_ _ _, HF.out, Fit.nil⟩).mono ?_
    rintro e w1 ⟨he, hb1⟩
    have he2 : e = .returned (.bool g) := by rw [← HG.out]; exact he
    subst he2
    clear he
    have B1 := Lib.hid (HB.out.trans (hb1.mono HB.out.size))
    clear hb1
    go_wp2
    go_ret
    exact ⟨rfl, B1.out⟩
  · have HB : Hid (Below w.heap.size w (((w.alloc (.cells #[.int .u64 (v.a : Int), .int .u64 (v.b : Int), .int .u64 (v.c : Int), .slice A v.pre.length cA, .slice none 0 0] 25)).alloc (.cells #[.int .i64 2, .int .u64 (v.a : Int), .int .u64 (v.b : Int), .int .u64 (v.c : Int), .slice A v.pre.length cA, .slice none 0 0] 41)).alloc (.cells #[.int .i64 1, .int .u64 (v.a : Int), .int .u64 (v.b : Int), .int .u64 (v.c : Int), .slice A v.pre.length cA, .slice none 0 0] 41)).drew) := (((((Below.refl _ _).alloc (Nat.le_refl _) _).alloc (by simp) _).alloc (by simp; omega) _)).drew
    have Q1 : Hid (At6B (((w.alloc (.cells #[.int .u64 (v.a : Int), .int .u64 (v.b : Int), .int .u64 (v.c : Int), .slice A v.pre.length cA, .slice none 0 0] 25)).alloc (.cells #[.int .i64 2, .int .u64 (v.a : Int), .int .u64 (v.b : Int), .int .u64 (v.c : Int), .slice A v.pre.length cA, .slice none 0 0] 41)).alloc (.cells #[.int .i64 1, .int .u64 (v.a : Int), .int .u64 (v.b : Int), .int .u64 (v.c : Int), .slice A v.pre.length cA, .slice none 0 0] 41)).drew (w.heap.size + 1) (.int .i64 2) (.int .u64 (v.a : Int)) (.int .u64 (v.b : Int)) (.int .u64 (v.c : Int)) (.slice A v.pre.length cA) (.slice none 0 0)) := by
      have q := (At6B.new (w.alloc (.cells #[.int .u64 (v.a : Int), .int .u64 (v.b : Int), .int .u64 (v.c : Int), .slice A v.pre.length cA, .slice none 0 0] 25)) 41 (.int .i64 2) (.int .u64 (v.a : Int)) (.int .u64 (v.b : Int)) (.int .u64 (v.c : Int)) (.slice A v.pre.length cA) (.slice none 0 0)).kept ((Below.refl _ _).alloc (Nat.le_refl _) (.cells #[.int .i64 1, .int .u64 (v.a : Int), .int .u64 (v.b : Int), .int .u64 (v.c : Int), .slice A v.pre.length cA, .slice none 0 0] 41)) (by simp)
      rw [size_alloc] at q; exact q
    have Q2 : Hid (At6B (((w.alloc (.cells #[.int .u64 (v.a : Int), .int .u64 (v.b : Int), .int .u64 (v.c : Int), .slice A v.pre.length cA, .slice none 0 0] 25)).alloc (.cells #[.int .i64 2, .int .u64 (v.a : Int), .int .u64 (v.b : Int), .int .u64 (v.c : Int), .slice A v.pre.length cA, .slice none 0 0] 41)).alloc (.cells #[.int .i64 1, .int .u64 (v.a : Int), .int .u64 (v.b : Int), .int .u64 (v.c : Int), .slice A v.pre.length cA, .slice none 0 0] 41)).drew (w.heap.size + 1 + 1) (.int .i64 1) (.int .u64 (v.a : Int)) (.int .u64 (v.b : Int)) (.int .u64 (v.c : Int)) (.slice A v.pre.length cA) (.slice none 0 0)) := by
      have q := At6B.new ((w.alloc (.cells #[.int .u64 (v.a : Int), .int .u64 (v.b : Int), .int .u64 (v.c : Int), .slice A v.pre.length cA, .slice none 0 0] 25)).alloc (.cells #[.int .i64 2, .int .u64 (v.a : Int), .int .u64 (v.b : Int), .int .u64 (v.c : Int), .slice A v.pre.length cA, .slice none 0 0] 41)) 41 (.int .i64 1) (.int .u64 (v.a : Int)) (.int .u64 (v.b : Int)) (.int .u64 (v.c : Int)) (.slice A v.pre.length cA) (.slice none 0 0)
      rw [size_alloc, size_alloc] at q; exact q
    generalize (((w.alloc (.cells #[.int .u64 (v.a : Int), .int .u64 (v.b : Int), .int .u64 (v.c : Int), .slice A v.pre.length cA, .slice none 0 0] 25)).alloc (.cells #[.int .i64 2, .int .u64 (v.a : Int), .int .u64 (v.b : Int), .int .u64 (v.c : Int), .slice A v.pre.length cA, .slice none 0 0] 41)).alloc (.cells #[.int .i64 1, .int .u64 (v.a : Int), .int .u64 (v.b : Int), .int .u64 (v.c : Int), .slice A v.pre.length cA, .slice none 0 0] 41)).drew = W at HB Q1 Q2 ⊢
    have HV : Hid (SRow W A v.pre.length v.pre) := HS.out.kept HB.out
    go_wp2_with fail
    refine (contains_any P n c l _ _ ⟨1, bare v, A, cA, none, 0⟩ ⟨2, bare v, A, cA, none, 0⟩ _ (HR.out.kept HB.out) hn Q2.out Q1.out ⟨HV.out, SRow.none_ _ _, HF.out, Fit.nil⟩ ⟨HV.out, SRow.none_ _ _, HF.out, Fit.nil⟩).mono ?_
    rintro e w1 ⟨he, hb1⟩
    have he2 : e = .returned (.bool g) := by rw [← HG.out]; exact he
    subst he2
    clear he
    have B1 := Lib.hid (HB.out.trans (hb1.mono HB.out.size))
    clear hb1
    go_wp2
    go_ret
    exact ⟨rfl, B1.out⟩

end Go.Proofs.YtgfbflnhjpbceaaGreatDoor.Span

namespace Go.Proofs.YtgfbflnhjpbceaaGreatDoor.Span
open Go.RowKit Num Ident Semver Prec

theorem stand_zero {a b : Cut} (h : stand a b = 0) : a.kind = b.kind ∧ (ofVer a = true → ofVer b = true → cmpV a.v b.v = 0) := by
  unfold stand at h
  by_cases h1 : ofVer a = true ∧ ofVer b = true ∧ cmpV a.v b.v ≠ 0
  · rw [if_pos h1] at h; exact absurd h h1.2.2
  · rw [if_neg h1] at h
    refine ⟨?_, fun h2 h3 => Classical.byContradiction fun h4 => h1 ⟨h2, h3, h4⟩⟩
    rcases ordI_cases a.kind b.kind with ⟨x, y⟩ | ⟨x, y⟩ | ⟨x, y⟩ <;> omega
/-- All cuts of a set are right. -/
def Rights (l : List Sp) : Prop := ∀ s ∈ l, right s.lo = true ∧ right s.hi = true
theorem Norm.rights {l : List Sp} (h : Norm l) : Rights l := fun s hs => ⟨((cnt_iff s).1 (h.cnt s hs)).1, ((cnt_iff s).1 (h.cnt s hs)).2.1⟩
theorem right_behind {v : Ver} (h : right (aheadOf v) = true) : right (behindOf v) = true := by
  rw [right_ver (.inl rfl)] at h
  rw [right_ver (.inr rfl)]; exact h
theorem hasOne_iff {s : Sp} {v : Ver} (h : right s.lo = true ∧ right s.hi = true) (hv : right (aheadOf v) = true) : hasOne (aheadOf v) (behindOf v) s = true ↔ inOne s (aheadOf v) := by
  unfold hasOne inOne
  rw [Bool.and_eq_true, decide_eq_true_eq, decide_eq_true_eq, cmpC_right h.1 hv, cmpC_right h.2 (right_behind hv), behind_le]
  have := stand_flip s.hi (behindOf v)
  constructor
  · rintro ⟨a, b⟩; exact ⟨a, by omega⟩
  · rintro ⟨a, b⟩; exact ⟨a, by omega⟩
/-- A right version is in a set just if what stands behind its first cut is. -/
theorem has_iff {l : List Sp} {v : Ver} (h : Rights l) (hv : right (aheadOf v) = true) : l.any (hasOne (aheadOf v) (behindOf v)) = true ↔ inS l (aheadOf v) := by
  rw [List.any_eq_true]
  exact ⟨fun ⟨s, hs, hi⟩ => ⟨s, hs, (hasOne_iff (h s hs) hv).1 hi⟩, fun ⟨s, hs, hi⟩ => ⟨s, hs, (hasOne_iff (h s hs) hv).2 hi⟩⟩
theorem inR_nil (c : Cut) : ¬ inR [] c := fun ⟨s, hs, _⟩ => by cases hs
theorem inS_one (s : Sp) (c : Cut) : inS [s] c ↔ inOne s c := ⟨fun ⟨x, hx, h⟩ => by rw [List.mem_singleton] at hx; subst hx; exact h, fun h => ⟨s, List.mem_singleton.2 rfl, h⟩⟩
theorem low_ahead (v : Ver) : stand low (aheadOf v) < 0 := by
  rw [stand_kind (by rintro ⟨h, _⟩; exact absurd h (by decide))]; exact (show ordI 0 1 < 0 by decide)
theorem behind_high (v : Ver) : stand (behindOf v) high < 0 := by
  rw [stand_kind (by rintro ⟨_, h⟩; exact absurd h (by decide))]; exact (show ordI 2 3 < 0 by decide)
end Go.Proofs.YtgfbflnhjpbceaaGreatDoor.Span

namespace Go.Proofs.YtgfbflnhjpbceaaGreatDoor.Span
open Go.RowKit Num Ident Semver Prec

/-- Does a set have a version? -/
def hasV (l : List Sp) (v : Ver) : Bool := l.any (hasOne (aheadOf v) (behindOf v))
theorem hasV_iff {l : List Sp} {v : Ver} (h : Rights l) (hv : right (aheadOf v) = true) : hasV l v = true ↔ inS l (aheadOf v) := has_iff h hv
theorem ahead_in {v : Ver} (hv : right (aheadOf v) = true) : inOne ⟨low, high⟩ (aheadOf v) := ⟨low_le hv, lt_le (ahead_behind v) (le_high (right_behind hv))⟩
end Go.Proofs.YtgfbflnhjpbceaaGreatDoor.Span

namespace Go.Proofs.YtgfbflnhjpbceaaGreatDoor.Nrm
open Go.RowKit Num Ident Semver Prec Span
open Range (Rng noRng goodR goodL fits)

theorem bytes_eq : ∀ {a b : List UInt8}, Lib.compareBytes a b = 0 → a = b
  | [], [], _ => rfl
  | [], y :: b, h => by simp [Lib.compareBytes] at h
  | x :: a, [], h => by simp [Lib.compareBytes] at h
  | x :: a, y :: b, h => by
    unfold Lib.compareBytes at h
    simp only [UInt8.lt_iff_toNat_lt] at h
    by_cases h1 : x.toNat < y.toNat
    · rw [if_pos h1] at h; omega
    · by_cases h2 : y.toNat < x.toNat
      · rw [if_neg h1, if_pos h2] at h; omega
      · rw [if_neg h1, if_neg h2] at h
        have e : x = y := UInt8.toNat_inj.1 (by omega)
        rw [e, bytes_eq h]
theorem two_digits {m p q r s : Nat} (hr : r < m) (hs : s < m) (h : p * m + r = q * m + s) : p = q ∧ r = s := by
  have e1 : (p * m + r) / m = p := by rw [Nat.mul_comm, Nat.mul_add_div (by omega), Nat.div_eq_of_lt hr]; rfl
  have e2 : (q * m + s) / m = q := by rw [Nat.mul_comm, Nat.mul_add_div (by omega), Nat.div_eq_of_lt hs]; rfl
  have e3 : p = q := by rw [← e1, h, e2]
  subst e3
  exact ⟨rfl, by omega⟩
theorem dig_eq : ∀ {a b : List UInt8}, AllDig a → AllDig b → a.length = b.length → val a = val b → a = b
  | [], [], _, _, _, _ => rfl
  | [], y :: b, _, _, h, _ => by simp at h
  | x :: a, [], _, _, h, _ => by simp at h
  | x :: a, y :: b, ha, hb, hl, hv => by
    have ha' := allDig_cons.1 ha
    have hb' := allDig_cons.1 hb
    have hl' : a.length = b.length := by simpa using hl
    rw [val_cons, val_cons, hl'] at hv
    have h1 := val_lt ha'.2
    rw [hl'] at h1
    obtain ⟨e1, e2⟩ := two_digits h1 (val_lt hb'.2) hv
    have hx := (isDig_iff x).1 ha'.1
    have hy := (isDig_iff y).1 hb'.1
    have e : x = y := UInt8.toNat_inj.1 (by omega)
    rw [e, dig_eq ha'.2 hb'.2 hl' e2]
theorem id_eq {a b : List UInt8} (h : cmpId a b = 0) : a = b := by
  unfold cmpId at h
  by_cases ha : numeric a = true
  · rw [if_pos ha] at h
    by_cases hb : numeric b = true
    · rw [if_pos hb] at h
      by_cases hv : ordN (val a) (val b) = 0
      · rw [if_pos hv] at h
        have da := all_of_run ((numeric_iff a).1 ha).2
        have db := all_of_run ((numeric_iff b).1 hb).2
        exact dig_eq da db ((ordN_zero_iff _ _).1 h) ((ordN_zero_iff _ _).1 hv)
      · rw [if_neg hv] at h; exact absurd h hv
    · rw [if_neg hb] at h; omega
  · rw [if_neg ha] at h
    by_cases hb : numeric b = true
    · rw [if_pos hb] at h; omega
    · rw [if_neg hb] at h; exact bytes_eq h
theorem rows_eq : ∀ {r s : List (List UInt8)}, cmpRows r s = 0 → r = s
  | [], s, h => by
    rw [cmpRows_nil] at h
    have := (ordN_zero_iff _ _).1 h
    exact (List.eq_nil_of_length_eq_zero this.symm).symm
  | a :: r, [], h => by
    rw [cmpRows_nil'] at h
    have := (ordN_zero_iff _ _).1 h
    simp at this
  | a :: r, b :: s, h => by
    by_cases hi : cmpId a b = 0
    · rw [cmpRows_same hi] at h
      rw [id_eq hi, rows_eq h]
    · rw [cmpRows_diff hi] at h; exact absurd h hi
theorem pre_eq {x y : List (List UInt8)} (h : cmpPre x y = 0) : x = y := by
  unfold cmpPre lex at h
  by_cases h0 : ordN (noneN x) (noneN y) = 0
  · rw [if_pos h0] at h; exact rows_eq h
  · rw [if_neg h0] at h; exact absurd h h0
theorem core_eq {u v : Ver} (h : cmpCore u v = 0) : u.a = v.a ∧ u.b = v.b ∧ u.c = v.c := by
  by_cases h1 : u.a = v.a
  · by_cases h2 : u.b = v.b
    · rw [cmpCore_3 h1 h2] at h; exact ⟨h1, h2, (ordN_zero_iff _ _).1 h⟩
    · rw [cmpCore_2 h1 h2] at h; exact absurd ((ordN_zero_iff _ _).1 h) h2
  · rw [cmpCore_1 h1] at h; exact absurd ((ordN_zero_iff _ _).1 h) h1
/-- Versions that stand alike have the same numbers and identifiers. -/
theorem ver_eq {u v : Ver} (h : cmpV u v = 0) : u.a = v.a ∧ u.b = v.b ∧ u.c = v.c ∧ u.pre = v.pre := by
  unfold cmpV lex at h
  by_cases h0 : cmpCore u v = 0
  · rw [if_pos h0] at h
    obtain ⟨a, b, c⟩ := core_eq h0
    exact ⟨a, b, c, pre_eq h⟩
  · rw [if_neg h0] at h; exact absurd h h0
theorem ver_same {u v : Ver} (h : cmpV u v = 0) (hu : u.build = []) (hv : v.build = []) : u = v := by
  obtain ⟨a, b, c, d⟩ := ver_eq h
  cases u; cases v
  simp only at *
  subst a; subst b; subst c; subst d; subst hu; subst hv; rfl
/-- Right cuts that stand alike are the same. -/
theorem cut_eq {a b : Cut} (ha : Span.right a = true) (hb : Span.right b = true) (h : stand a b = 0) : a = b := by
  obtain ⟨hk, hv⟩ := stand_zero h
  have fa := (right_few ha).2
  have fb := (right_few hb).2
  have key : a.v = b.v := by
    by_cases h1 : a.kind = 0 ∨ a.kind = 3
    · rw [right_ends h1] at ha
      rw [right_ends (hk ▸ h1)] at hb
      rw [sameV_none ha, sameV_none hb]
    · have h2 := right_kind ha
      have h3 : ofVer a = true := (ofVer_iff a).2 (by omega)
      have h4 : ofVer b = true := (ofVer_iff b).2 (by omega)
      exact ver_same (hv h3 h4) fa fb
  cases a; cases b
  simp only at *
  subst hk; subst key; rfl
theorem like_eq : ∀ {l m : List Sp}, Like l m → Rights l → Rights m → l = m := by
  intro l m h
  induction h with
  | nil => intro _ _; rfl
  | @cons s t l m h1 h2 _ ih =>
    intro hl hm
    obtain ⟨a1, a2⟩ := hl s (List.mem_cons_self ..)
    obtain ⟨b1, b2⟩ := hm t (List.mem_cons_self ..)
    have e1 := cut_eq a1 b1 h1
    have e2 := cut_eq a2 b2 h2
    rw [ih (fun x hx => hl x (List.mem_cons_of_mem _ hx)) (fun x hx => hm x (List.mem_cons_of_mem _ hx))]
    cases s; cases t
    simp only at *
    subst e1; subst e2; rfl
/-- Of each set there is just one normal one, sign by sign. -/
theorem uniq {l m : List Sp} (hl : Norm l) (hm : Norm m) (h : ∀ c, inS l c ↔ inS m c) : l = m := like_eq (unique hl hm h) hl.rights hm.rights

/-- The cut of caret's or tilde's end. -/
def endCut (o : Option Ver) : Cut := match o with
  | none => high
  | some e => ⟨1, e⟩
def loOf (k : Int) (v : Ver) : Cut := if k = 1 ∨ k = 5 ∨ k = 7 ∨ k = 8 then aheadOf v else if k = 2 then behindOf v else low
def hiOf (k : Int) (v : Ver) : Cut := if k = 3 ∨ k = 5 then behindOf v else if k = 4 then aheadOf v else if k = 7 then endCut (caretV v) else if k = 8 then endCut (tildeV v) else high
/-- What a version's range has. -/
def inK (k : Int) (v : Ver) (c : Cut) : Prop := if k = 6 then ¬ inOne ⟨aheadOf v, behindOf v⟩ c else inOne ⟨loOf k v, hiOf k v⟩ c
mutual
/-- What a range has. -/
def inC : Rng → Cut → Prop
  | .mk k v l, c => inOne ⟨low, high⟩ c ∧ (if k = 9 then allC l c else if k = 10 then anyC l c else if k = 11 then ¬ headC l c else inK k v c)
def allC : List Rng → Cut → Prop
  | [], _ => True
  | r :: rs, c => inC r c ∧ allC rs c
def anyC : List Rng → Cut → Prop
  | [], _ => False
  | r :: rs, c => inC r c ∨ anyC rs c
def headC : List Rng → Cut → Prop
  | [], _ => False
  | r :: _, c => inC r c
end
theorem inC_eq (k : Int) (v : Ver) (l : List Rng) (c : Cut) : inC (.mk k v l) c = (inOne ⟨low, high⟩ c ∧ (if k = 9 then allC l c else if k = 10 then anyC l c else if k = 11 then ¬ headC l c else inK k v c)) := by rw [inC]
theorem allC_iff {c : Cut} : ∀ {l : List Rng}, allC l c ↔ ∀ x ∈ l, inC x c
  | [] => by rw [allC]; simp
  | r :: rs => by rw [allC, allC_iff]; simp
theorem anyC_iff {c : Cut} : ∀ {l : List Rng}, anyC l c ↔ ∃ x ∈ l, inC x c
  | [] => by rw [anyC]; simp
  | r :: rs => by rw [anyC, anyC_iff]; simp
theorem headC_one (r : Rng) (c : Cut) : headC [r] c ↔ inC r c := by rw [headC]
theorem inC_all {r : Rng} {c : Cut} (h : inC r c) : inOne ⟨low, high⟩ c := by
  obtain ⟨k, v, l⟩ := r
  rw [inC_eq] at h; exact h.1
theorem inC_and (v : Ver) (l : List Rng) (c : Cut) : inC (.mk 9 v l) c ↔ inOne ⟨low, high⟩ c ∧ ∀ x ∈ l, inC x c := by rw [inC_eq, if_pos rfl, allC_iff]
theorem inC_or (v : Ver) (l : List Rng) (c : Cut) : inC (.mk 10 v l) c ↔ ∃ x ∈ l, inC x c := by
  rw [inC_eq, if_neg (by omega), if_pos rfl, anyC_iff]
  exact ⟨fun h => h.2, fun ⟨x, hx, h⟩ => ⟨inC_all h, x, hx, h⟩⟩
theorem inC_not (v : Ver) (r : Rng) (c : Cut) : inC (.mk 11 v [r]) c ↔ inOne ⟨low, high⟩ c ∧ ¬ inC r c := by
  rw [inC_eq, if_neg (by omega), if_neg (by omega), if_pos rfl, headC_one]
theorem inC_ver {k : Int} (h1 : 0 ≤ k) (h2 : k ≤ 8) (v : Ver) (l : List Rng) (c : Cut) : inC (.mk k v l) c ↔ inOne ⟨low, high⟩ c ∧ inK k v c := by
  rw [inC_eq, if_neg (by omega), if_neg (by omega), if_neg (by omega)]
/-- What a right version's cuts are. -/
theorem good_bare {v : Ver} (h : goodV v = true) : goodV (bare v) = true := by
  unfold goodV bare at *
  rw [Bool.and_eq_true, Bool.and_eq_true] at h ⊢
  exact ⟨h.1, h.2.1, rfl⟩
theorem ahead_right {v : Ver} (h : goodV v = true) : Span.right (aheadOf v) = true := by
  rw [right_ver (.inl rfl), Bool.and_eq_true, decide_eq_true_eq]
  exact ⟨good_bare h, rfl⟩
theorem end_good {v e : Ver} {i : Nat} (hv : goodV v = true) (h : endV v.a v.b v.c i = some e) : goodV e = true ∧ e.build = [] := by
  unfold goodV at hv
  rw [Bool.and_eq_true] at hv
  have hh := of_decide_eq_true hv.1
  have key : ∀ x y z, x ≤ maxField → y ≤ maxField → z ≤ maxField → goodV (firstV x y z) = true ∧ (firstV x y z).build = [] := fun x y z h1 h2 h3 => by
    refine ⟨?_, rfl⟩
    unfold goodV
    rw [Bool.and_eq_true]
    exact ⟨decide_eq_true ⟨h1, h2, h3⟩, show (goodFrom true [[48]] 0 && goodFrom false [] 0) = true by decide⟩
  have hm : maxField = 9223372036854775807 := rfl
  unfold endV at h
  split at h
  · split at h
    · cases h
    · injection h with h; subst h; exact key _ _ _ (by omega) (Nat.zero_le _) (Nat.zero_le _)
  · split at h
    · split at h
      · cases h
      · injection h with h; subst h; exact key _ _ _ hh.1 (by omega) (Nat.zero_le _)
    · split at h
      · cases h
      · injection h with h; subst h; exact key _ _ _ hh.1 hh.2.1 (by omega)
theorem endCut_right {v : Ver} {i : Nat} (hv : goodV v = true) : Span.right (endCut (endV v.a v.b v.c i)) = true ∧ stand (aheadOf v) (endCut (endV v.a v.b v.c i)) < 0 := by
  cases h : endV v.a v.b v.c i with
  | none =>
    refine ⟨high_right, ?_⟩
    exact lt_le (ahead_behind v) (Int.le_of_lt (behind_high v))
  | some e =>
    obtain ⟨h1, h2⟩ := end_good hv h
    refine ⟨?_, ?_⟩
    · show Span.right ⟨1, e⟩ = true
      rw [right_ver (.inl rfl), Bool.and_eq_true, decide_eq_true_eq]
      exact ⟨h1, by show e.build.length = 0; rw [h2]; rfl⟩
    · have h3 := end_ahead h
      show stand (aheadOf v) ⟨1, e⟩ < 0
      have h4 : cmpV (bare v) e = -1 := h3
      unfold stand
      rw [if_pos ⟨rfl, rfl, by show cmpV (bare v) e ≠ 0; rw [h4]; decide⟩]
      show cmpV (bare v) e < 0
      rw [h4]; decide
theorem lohi {k : Int} {v : Ver} (hk : k = 0 ∨ goodV v = true) : Span.right (loOf k v) = true ∧ Span.right (hiOf k v) = true ∧ stand (loOf k v) (hiOf k v) < 0 := by
  rcases hk with rfl | hv
  · exact ⟨low_right, high_right, low_high⟩
  · have ha := ahead_right hv
    have hb := right_behind ha
    have e1 := ahead_behind v
    have e2 := behind_high v
    have e3 := low_ahead v
    unfold loOf hiOf
    by_cases h1 : k = 1
    · subst h1; exact ⟨ha, high_right, lt_lt e1 e2⟩
    by_cases h2 : k = 2
    · subst h2; exact ⟨hb, high_right, e2⟩
    by_cases h3 : k = 3
    · subst h3; exact ⟨low_right, hb, lt_lt e3 e1⟩
    by_cases h4 : k = 4
    · subst h4; exact ⟨low_right, ha, e3⟩
    by_cases h5 : k = 5
    · subst h5; exact ⟨ha, hb, e1⟩
    by_cases h7 : k = 7
    · subst h7; exact ⟨ha, (endCut_right hv).1, (endCut_right hv).2⟩
    by_cases h8 : k = 8
    · subst h8; exact ⟨ha, (endCut_right hv).1, (endCut_right hv).2⟩
    rw [if_neg (by omega), if_neg (by omega), if_neg (by omega), if_neg (by omega), if_neg (by omega), if_neg (by omega)]
    exact ⟨low_right, high_right, low_high⟩
theorem within {s : Sp} {c : Cut} (h1 : Span.right s.lo = true) (h2 : Span.right s.hi = true) (h : inOne s c) : inOne ⟨low, high⟩ c := ⟨le_le (low_le h1) h.1, lt_le h.2 (le_high h2)⟩

/-- The normal set of a range; of what isn't in it. -/
def SetOf (r : Rng) (o : List Sp) : Prop := Norm o ∧ ∀ c, inS o c ↔ inC r c
def RestOf (r : Rng) (o : List Sp) : Prop := Norm o ∧ ∀ c, inS o c ↔ inOne ⟨low, high⟩ c ∧ ¬ inC r c
theorem SetOf.one {r : Rng} {o p : List Sp} (h : SetOf r o) (k : SetOf r p) : o = p := uniq h.1 k.1 fun c => (h.2 c).trans (k.2 c).symm
theorem inR_one {s : Sp} (h : Span.cnt s = true) (c : Cut) : inR [s] c ↔ inOne s c :=
  ⟨fun ⟨x, hx, _, hi⟩ => by rw [List.mem_singleton] at hx; subst hx; exact hi, fun hi => ⟨s, List.mem_singleton.2 rfl, h, hi⟩⟩
theorem set_span {k : Int} {v : Ver} (h0 : 0 ≤ k) (h8 : k ≤ 8) (h6 : k ≠ 6) (hk : k = 0 ∨ goodV v = true) (l : List Rng) {o : List Sp} (h : NormalOf [⟨loOf k v, hiOf k v⟩] o) : SetOf (.mk k v l) o := by
  obtain ⟨h1, h2, h3⟩ := lohi (k := k) hk
  refine ⟨h.1, fun c => ?_⟩
  rw [h.2, inR_one ((cnt_iff _).2 ⟨h1, h2, h3⟩), inC_ver h0 h8]
  unfold inK
  rw [if_neg h6]
  exact ⟨fun g => ⟨within h1 h2 g, g⟩, fun g => g.2⟩
theorem set_ne {v : Ver} (hv : goodV v = true) (l : List Rng) {n o : List Sp} (hn : NormalOf [⟨aheadOf v, behindOf v⟩] n) (h : NotOf n o) : SetOf (.mk 6 v l) o := by
  have ha := ahead_right hv
  refine ⟨h.1, fun c => ?_⟩
  rw [h.2, hn.1.inR, hn.2, inR_one ((cnt_iff _).2 ⟨ha, right_behind ha, ahead_behind v⟩), inC_ver (by omega) (by omega)]
  unfold inK
  rw [if_pos rfl]
theorem rest_of {r : Rng} {n o : List Sp} (hn : SetOf r n) (h : NotOf n o) : RestOf r o := ⟨h.1, fun c => by rw [h.2, hn.1.inR, hn.2]⟩
theorem set_not {v : Ver} {r : Rng} {o : List Sp} (h : RestOf r o) : SetOf (.mk 11 v [r]) o := ⟨h.1, fun c => by rw [h.2, inC_not]⟩
theorem set_or {v : Ver} {l : List Rng} {a o : List Sp} (ha : ∀ c, inR a c ↔ ∃ x ∈ l, inC x c) (h : NormalOf a o) : SetOf (.mk 10 v l) o := ⟨h.1, fun c => by rw [h.2, ha, inC_or]⟩
theorem set_and {v : Ver} {l : List Rng} {a o : List Sp} (ha : ∀ c, inR a c ↔ ∃ x ∈ l, inOne ⟨low, high⟩ c ∧ ¬ inC x c) (h : NotOf a o) : SetOf (.mk 9 v l) o := ⟨h.1, fun c => by
  rw [h.2, ha, inC_and]
  refine and_congr_right fun hc => ⟨fun k x hx => Classical.byContradiction fun hn => k ⟨x, hx, hc, hn⟩, ?_⟩
  rintro k ⟨x, hx, _, hn⟩
  exact hn (k x hx)⟩
theorem inR_append (a b : List Sp) (c : Cut) : inR (a ++ b) c ↔ inR a c ∨ inR b c := by
  constructor
  · rintro ⟨s, hs, h⟩
    rcases List.mem_append.1 hs with hs | hs
    · exact .inl ⟨s, hs, h⟩
    · exact .inr ⟨s, hs, h⟩
  · rintro (⟨s, hs, h⟩ | ⟨s, hs, h⟩)
    · exact ⟨s, List.mem_append_left _ hs, h⟩
    · exact ⟨s, List.mem_append_right _ hs, h⟩

/-! What a version's range has, version by version. -/
theorem ahead_cmp (u v : Ver) : stand (aheadOf u) (aheadOf v) = cmpV u v := by
  unfold stand
  by_cases h : cmpV u v = 0
  · rw [if_neg (fun k => k.2.2 h), h]; rfl
  · rw [if_pos ⟨rfl, rfl, h⟩]; rfl
theorem behind_cmp (u v : Ver) : stand (behindOf u) (aheadOf v) ≤ 0 ↔ cmpV u v < 0 := by
  unfold stand
  by_cases h : cmpV u v = 0
  · rw [if_neg (fun k => k.2.2 h), h]; simp [behindOf, aheadOf, ordI]
  · rw [if_pos ⟨rfl, rfl, h⟩]
    show cmpV u v ≤ 0 ↔ cmpV u v < 0
    omega
theorem cmp_behind (u v : Ver) : stand (aheadOf v) (behindOf u) < 0 ↔ cmpV v u ≤ 0 := by
  rw [show stand (aheadOf v) (behindOf u) = - stand (behindOf u) (aheadOf v) by have := stand_flip (behindOf u) (aheadOf v); omega]
  have h1 := behind_cmp u v
  have h2 := cmpV_ordr.flip u v
  omega
def hereV (o : Option Ver) (v : Ver) : Bool := match o with
  | none => true
  | some e => decide (cmpV v e < 0)
/-- Is a right version in a version's range, as the expression says? -/
def kindV (k : Int) (u v : Ver) : Bool :=
  if k = 1 then decide (0 ≤ cmpV v u) else if k = 2 then decide (0 < cmpV v u) else if k = 3 then decide (cmpV v u ≤ 0) else if k = 4 then decide (cmpV v u < 0)
  else if k = 5 then decide (cmpV v u = 0) else if k = 6 then decide (cmpV v u ≠ 0) else if k = 7 then decide (0 ≤ cmpV v u) && hereV (caretV u) v else if k = 8 then decide (0 ≤ cmpV v u) && hereV (tildeV u) v else true
theorem here_iff (u v : Ver) (i : Nat) : stand (aheadOf v) (endCut (endV u.a u.b u.c i)) < 0 ↔ hereV (endV u.a u.b u.c i) v = true := by
  cases h : endV u.a u.b u.c i with
  | none => exact ⟨fun _ => rfl, fun _ => lt_le (ahead_behind v) (Int.le_of_lt (behind_high v))⟩
  | some e =>
    show stand (aheadOf v) ⟨1, e⟩ < 0 ↔ decide (cmpV v e < 0) = true
    rw [decide_eq_true_eq]
    have e1 : stand (aheadOf v) ⟨1, e⟩ = cmpV v e := by
      unfold stand
      by_cases h : cmpV v e = 0
      · rw [if_neg (fun k => k.2.2 h), h]; rfl
      · rw [if_pos ⟨rfl, rfl, h⟩]; rfl
    rw [e1]
theorem inK_iff {k : Int} (h1 : 1 ≤ k) (h8 : k ≤ 8) (u : Ver) {v : Ver} (hv : goodV v = true) : inK k u (aheadOf v) ↔ kindV k u v = true := by
  have hr := ahead_right hv
  have a1 := ahead_cmp u v
  have a2 := behind_cmp u v
  have a3 := cmp_behind u v
  have a4 := ahead_cmp v u
  have a5 := cmpV_ordr.flip v u
  have z1 : stand low (aheadOf v) ≤ 0 := Int.le_of_lt (low_ahead v)
  have z2 : stand (aheadOf v) high < 0 := lt_le (ahead_behind v) (Int.le_of_lt (behind_high v))
  have t1 : stand (aheadOf v) (endCut (caretV u)) < 0 ↔ hereV (caretV u) v = true := here_iff u v _
  have t2 : stand (aheadOf v) (endCut (tildeV u)) < 0 ↔ hereV (tildeV u) v = true := here_iff u v _
  unfold inK kindV
  rcases (show k = 1 ∨ k = 2 ∨ k = 3 ∨ k = 4 ∨ k = 5 ∨ k = 6 ∨ k = 7 ∨ k = 8 by omega) with rfl | rfl | rfl | rfl | rfl | rfl | rfl | rfl
  · simp only [reduceIte, Int.reduceEq, if_false, decide_eq_true_eq]
    show (stand (aheadOf u) (aheadOf v) ≤ 0 ∧ stand (aheadOf v) high < 0) ↔ _
    omega
  · simp only [reduceIte, Int.reduceEq, if_false, decide_eq_true_eq]
    show (stand (behindOf u) (aheadOf v) ≤ 0 ∧ stand (aheadOf v) high < 0) ↔ _
    omega
  · simp only [reduceIte, Int.reduceEq, if_false, decide_eq_true_eq]
    show (stand low (aheadOf v) ≤ 0 ∧ stand (aheadOf v) (behindOf u) < 0) ↔ _
    omega
  · simp only [reduceIte, Int.reduceEq, if_false, decide_eq_true_eq]
    show (stand low (aheadOf v) ≤ 0 ∧ stand (aheadOf v) (aheadOf u) < 0) ↔ _
    omega
  · simp only [reduceIte, Int.reduceEq, if_false, decide_eq_true_eq]
    show (stand (aheadOf u) (aheadOf v) ≤ 0 ∧ stand (aheadOf v) (behindOf u) < 0) ↔ _
    omega
  · simp only [reduceIte, Int.reduceEq, if_false, decide_eq_true_eq]
    show ¬ (stand (aheadOf u) (aheadOf v) ≤ 0 ∧ stand (aheadOf v) (behindOf u) < 0) ↔ _
    omega
  · simp only [reduceIte, Int.reduceEq, if_false, Bool.and_eq_true, decide_eq_true_eq]
    show (stand (aheadOf u) (aheadOf v) ≤ 0 ∧ stand (aheadOf v) (endCut (caretV u)) < 0) ↔ _
    rw [t1]
    exact and_congr_left fun _ => by omega
  · simp only [reduceIte, Int.reduceEq, if_false, Bool.and_eq_true, decide_eq_true_eq]
    show (stand (aheadOf u) (aheadOf v) ≤ 0 ∧ stand (aheadOf v) (endCut (tildeV u)) < 0) ↔ _
    rw [t2]
    exact and_congr_left fun _ => by omega
mutual
/-- Is a right version in a right range's set, part by part? -/
def inV : Rng → Ver → Bool
  | .mk k u l, v => if k = 9 then allV l v else if k = 10 then anyV l v else if k = 11 then notV l v else kindV k u v
def allV : List Rng → Ver → Bool
  | [], _ => true
  | r :: rs, v => inV r v && allV rs v
def anyV : List Rng → Ver → Bool
  | [], _ => false
  | r :: rs, v => inV r v || anyV rs v
def notV : List Rng → Ver → Bool
  | [], _ => true
  | r :: _, v => !inV r v
end
theorem inV_eq (k : Int) (u : Ver) (l : List Rng) (v : Ver) : inV (.mk k u l) v = if k = 9 then allV l v else if k = 10 then anyV l v else if k = 11 then notV l v else kindV k u v := by rw [inV]
theorem allV_cons (r : Rng) (rs : List Rng) (v : Ver) : allV (r :: rs) v = (inV r v && allV rs v) := by rw [allV]
theorem anyV_cons (r : Rng) (rs : List Rng) (v : Ver) : anyV (r :: rs) v = (inV r v || anyV rs v) := by rw [anyV]
theorem allV_iff {v : Ver} : ∀ {l : List Rng}, allV l v = true ↔ ∀ x ∈ l, inV x v = true
  | [] => by rw [allV]; simp
  | r :: rs => by rw [allV_cons, Bool.and_eq_true, allV_iff]; simp
theorem anyV_iff {v : Ver} : ∀ {l : List Rng}, anyV l v = true ↔ ∃ x ∈ l, inV x v = true
  | [] => by rw [anyV]; simp
  | r :: rs => by rw [anyV_cons, Bool.or_eq_true, anyV_iff]; simp
/-- Has tells what the expression says, part by part. -/
theorem inC_inV {v : Ver} (hv : goodV v = true) : ∀ (n : Nat) (r : Rng), SizeOf.sizeOf r ≤ n → ∀ d, goodR r d = true → (inC r (aheadOf v) ↔ inV r v = true)
  | 0, r, h, _, _ => by obtain ⟨k, u, l⟩ := r; simp at h
  | n + 1, .mk k u l, h, d, hg => by
    have z : inOne ⟨low, high⟩ (aheadOf v) := ahead_in (ahead_right hv)
    have IH : ∀ x ∈ l, (inC x (aheadOf v) ↔ inV x v = true) := fun x hx => by
      obtain ⟨_, h2, _⟩ := Range.good_cases hg
      exact inC_inV hv n x (by have := Range.size_mem (kind := k) (v := u) hx; omega) _ (Range.goodL_mem h2 hx)
    obtain ⟨_, _, h3⟩ := Range.good_cases hg
    rw [inV_eq]
    rcases h3 with ⟨a, b, _, rfl⟩ | ⟨_, ⟨b, rfl⟩ | ⟨b, _⟩ | ⟨b, y, rfl⟩⟩
    · rw [inC_ver (by omega) b, if_neg (by omega), if_neg (by omega), if_neg (by omega), ← inK_iff a b u hv]
      exact ⟨fun g => g.2, fun g => ⟨z, g⟩⟩
    · subst b
      rw [inC_ver (by omega) (by omega)]
      exact ⟨fun _ => rfl, fun _ => ⟨z, z⟩⟩
    · rcases b with rfl | rfl
      · rw [inC_and, if_pos rfl, allV_iff]
        exact ⟨fun g x hx => (IH x hx).1 (g.2 x hx), fun g => ⟨z, fun x hx => (IH x hx).2 (g x hx)⟩⟩
      · rw [inC_or, if_neg (by omega), if_pos rfl, anyV_iff]
        exact ⟨fun ⟨x, hx, g⟩ => ⟨x, hx, (IH x hx).1 g⟩, fun ⟨x, hx, g⟩ => ⟨x, hx, (IH x hx).2 g⟩⟩
    · subst b
      have hy := IH y (List.mem_singleton.2 rfl)
      rw [inC_not, if_neg (by omega), if_neg (by omega), if_pos rfl, notV, Bool.not_eq_true', ← Bool.not_eq_true, ← hy]
      exact ⟨fun g => g.2, fun g => ⟨z, g⟩⟩
theorem set_has {r : Rng} {d : Nat} {o : List Sp} {v : Ver} (h : SetOf r o) (hg : goodR r d = true) (hv : goodV v = true) : hasV o v = inV r v := by
  rw [Bool.eq_iff_iff, hasV_iff h.1.rights (ahead_right hv), h.2]
  exact inC_inV hv _ r (Nat.le_refl _) d hg
end Go.Proofs.YtgfbflnhjpbceaaGreatDoor.Nrm
