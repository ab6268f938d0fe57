/-
  Some ranges as one (norm.joined). Conditions: the slice reads as the list of ranges. (Made by wip/gen_nmjoin.py.)
  A span's twelve cells at a place; a set, place by place. No condition.
  A piece's parts as memory holds them while they are gathered (norm.piece). Conditions: as each states.
  Small numbers as floats; by how much a cut's rank is above that of the cut ahead of it (norm.rise). Conditions: as each states. (Made by wip/gen_nmjoin.py.)
  The ends of a normal set's spans, as complex numbers of ranks (norm.ranked). Conditions: the slice reads as the list of spans, at most 75 of them. (Made by wip/gen_nmranked.py.)
  The range of a piece (norm.piece). Conditions: the slice reads as a chain of spans of a normal set, their rows lie in memory of texts; the first span's ends are told by two floats. (Made by wip/gen_nmpiece.py.)
  Memory of rangeexpr.Text: the levels of ranges whose expressions are being told, the builder beside them. Conditions: as each states.
  Pieces' ranges as memory holds them while they are gathered; how what is gathered and what is left make all pieces. Conditions: as each states. (Made by wip/gen_nmpieces.py.)
-/
import Derived.Test.YtgfbflnhjpbceaaGreatDoorPartsB8
import Derived.StillTailTactics
import Derived.Deep.CutBlock
import Derived.Deep.DeepCutAuto
import Derived.Deep.RegionHeld3
import Derived.WalkLawsBesides
import Derived.Laws.MakeOwn
import Derived.Laws.Entries
import Derived.Laws.OwnMore
import Derived.OneCell
namespace Go.Proofs.YtgfbflnhjpbceaaGreatDoor.Nrm
open Go.RowKit Num Ident Semver Prec Span
open Range (Rng noRng goodR goodL fits RV RAt RgRow LtB wt wtL wtL_len wt_mem KeepS zeroRV)
/-- What a call leaves that answers a range. -/
def RngPost (w : World) (S : Nat → Prop) (r : Rng) (e : Ending) (w' : World) : Prop := ∃ x : RV, e = .returned x.agg ∧ Range.Lies w' S r x ∧ Below w.heap.size w w'
theorem keepR {w W : World} {S : Nat → Prop} (hS : ∀ g, S g → g < w.heap.size) (hb : Below w.heap.size w W) (x : RV) : KeepS S w (Range.setR W w.heap.size x) :=
  (KeepS.of_below hb).trans (Range.setR_keep (fun h => Nat.lt_irrefl _ (hS _ h)) x)
theorem lies_lt {w : World} {S : Nat → Prop} {L : Option Addr} {n : Nat} {l : List Rng} (h : RgRow w S L n l) : RgRow w (fun g => S g ∧ g < w.heap.size) L n l := by
  obtain ⟨f, h1, h2, h3⟩ := h
  refine ⟨f, h1, fun h0 => ?_, fun j hj => (h3 j hj).mono fun g hS hg => ⟨hS, hg⟩⟩
  obtain ⟨b, o, e, hb, hc⟩ := h2 h0
  exact ⟨b, o, e, ⟨hb, (hc 0 h0).lt⟩, hc⟩
set_option maxRecDepth 100000 in
set_option maxHeartbeats 1600000 in
theorem joined_any (k : Int) (L : Option Addr) (n e : Nat) (l : List Rng) (S : Nat → Prop) (w : World) (hl0 : RgRow w S L n l) (he : n ≤ e) (hnil : L = none → e = 0) (hn : n ≤ 1000000) :
    Calls Tryz.prog 40 #[.int .i64 k, .slice L n e] w (RngPost w S (few k l)) := by
  have hl := lies_lt hl0
  have HL := Lib.hid hl
  have HNil := Lib.hid hnil
  have hln : l.length = n := by obtain ⟨f, h1, _⟩ := hl; exact h1
  have HB : Hid (Below w.heap.size w (w.alloc (.cells #[.int .i64 0, .int .u64 0, .int .u64 0, .int .u64 0, .slice none 0 0, .slice none 0 0, .slice none 0 0] 28))) := (Below.refl _ _).alloc (Nat.le_refl _) _
  have HR : Hid (RAt (w.alloc (.cells #[.int .i64 0, .int .u64 0, .int .u64 0, .int .u64 0, .slice none 0 0, .slice none 0 0, .slice none 0 0] 28)) w.heap.size (zeroRV 0)) := RAt.new w _ (zeroRV 0)
  have HM : Hid (∀ (w' : World) (q : Rng) (x : RV), Range.Lies w' (fun g => S g ∧ g < w.heap.size) q x → Range.Lies w' S q x) := fun w' q x h => h.mono fun g hS _ => hS.1
  clear hl hl0 hnil
  go_enter Tryz.func40, Tryz.ntmps40
  go_upto_region 1 with (fail)
  generalize (w.alloc (.cells #[.int .i64 0, .int .u64 0, .int .u64 0, .int .u64 0, .slice none 0 0, .slice none 0 0, .slice none 0 0] 28)) = W at HB HR ⊢
  obtain ⟨y1, y2, c0, c1, c2, c3, c4, c5, c6⟩ := HR.out
  simp only [zeroRV] at c0 c1 c2 c3 c4 c5 c6
  by_cases h0 : n = 0
  · obtain rfl : l = [] := List.eq_nil_of_length_eq_zero (hln.trans h0)
    have q0 : ((n : Int) == 0) = true := by simp [h0]
    clear h0
    have HK9 := Lib.hid (Range.setR_at (x := (zeroRV 0)) HR.out)
    have HB9 : Hid (Below w.heap.size w (Range.setR W w.heap.size (zeroRV 0))) := HB.out.trans ((Range.setR_below w.heap.size (Nat.le_refl _) (zeroRV 0)).mono (Nat.le_refl _))
    have HS9 : Hid (Range.Lies (Range.setR W w.heap.size (zeroRV 0)) S (few k []) (zeroRV 0)) := by rw [few_none]; exact Range.Lies.zero _ _ 0
    go_wp2
    change bodyPost _ _ _ _ _ (Range.setR W w.heap.size (zeroRV 0))
    generalize Range.setR W w.heap.size (zeroRV 0) = W9 at HK9 HB9 HS9 ⊢
    obtain ⟨_, _, z0, z1, z2, z3, z4, z5, z6⟩ := HK9.out
    exact bodyPost_ret (v := .agg #[.int .i64 (zeroRV 0).kind, .int .u64 ((zeroRV 0).v.a : Int), .int .u64 ((zeroRV 0).v.b : Int), .int .u64 ((zeroRV 0).v.c : Int), .slice (zeroRV 0).A (zeroRV 0).v.pre.length (zeroRV 0).c, .slice (zeroRV 0).B (zeroRV 0).v.build.length (zeroRV 0).d, .slice (zeroRV 0).L (zeroRV 0).n (zeroRV 0).e]) (by simp [results, Tryz.results40, go_sem, z0, z1, z2, z3, z4, z5, z6]) rfl ⟨(zeroRV 0), rfl, HS9.out, HB9.out⟩
  · have q0 : ((n : Int) == 0) = false := by simp [h0]
    by_cases h1 : n = 1
    · obtain ⟨q, rfl⟩ := List.length_eq_one_iff.1 (hln.trans h1)
      obtain ⟨b, o, y, hLe, hSb, hcl, hy⟩ := HL.out.one (show 0 < n by omega)
      have hy' : Range.Lies w (fun g => S g ∧ g < w.heap.size) q y := hy
      simp only [Nat.zero_mul, Nat.add_zero] at hcl
      obtain ⟨e0, e1, e2, e3, e4, e5, e6⟩ := (hcl.keep (KeepS.of_below (S := fun g => S g ∧ g < w.heap.size) HB.out) hSb).cells
      have q1 : ((n : Int) == 1) = true := by simp [h1]
      have hne : b ≠ w.heap.size := Nat.ne_of_lt hSb.2
      rw [hLe]
      clear h0 hcl hy hLe hSb
      have HK9 := Lib.hid (Range.setR_at (x := y) HR.out)
      have HB9 : Hid (Below w.heap.size w (Range.setR W w.heap.size y)) := HB.out.trans ((Range.setR_below w.heap.size (Nat.le_refl _) y).mono (Nat.le_refl _))
      have HS9 : Hid (Range.Lies (Range.setR W w.heap.size y) S (few k [q]) y) := by rw [few_one]; exact HM.out _ _ _ (hy'.keep (keepR (fun g h => h.2) HB.out y))
      go_wp2
      change bodyPost _ _ _ _ _ (Range.setR W w.heap.size y)
      generalize Range.setR W w.heap.size y = W9 at HK9 HB9 HS9 ⊢
      obtain ⟨_, _, z0, z1, z2, z3, z4, z5, z6⟩ := HK9.out
      exact bodyPost_ret (v := .agg #[.int .i64 y.kind, .int .u64 (y.v.a : Int), .int .u64 (y.v.b : Int), .int .u64 (y.v.c : Int), .slice y.A y.v.pre.length y.c, .slice y.B y.v.build.length y.d, .slice y.L y.n y.e]) (by simp [results, Tryz.results40, go_sem, z0, z1, z2, z3, z4, z5, z6]) rfl ⟨y, rfl, HS9.out, HB9.out⟩
    · have q1 : ((n : Int) == 1) = false := beq_eq_false_iff_ne.2 (by omega)
      have h2 : 2 ≤ l.length := by omega
      clear h0 h1
      have HK9 := Lib.hid (Range.setR_at (x := (⟨k, noVer, none, 0, none, 0, L, n, e⟩ : RV)) HR.out)
      have HB9 : Hid (Below w.heap.size w (Range.setR W w.heap.size (⟨k, noVer, none, 0, none, 0, L, n, e⟩ : RV))) := HB.out.trans ((Range.setR_below w.heap.size (Nat.le_refl _) (⟨k, noVer, none, 0, none, 0, L, n, e⟩ : RV)).mono (Nat.le_refl _))
      have HS9 : Hid (Range.Lies (Range.setR W w.heap.size (⟨k, noVer, none, 0, none, 0, L, n, e⟩ : RV)) S (few k l) (⟨k, noVer, none, 0, none, 0, L, n, e⟩ : RV)) := by rw [few_more k h2]; exact HM.out _ _ _ (Range.Lies.many k (HL.out.keep (keepR (fun g h => h.2) HB.out (⟨k, noVer, none, 0, none, 0, L, n, e⟩ : RV))) he HNil.out)
      go_wp2
      change bodyPost _ _ _ _ _ (Range.setR W w.heap.size (⟨k, noVer, none, 0, none, 0, L, n, e⟩ : RV))
      generalize Range.setR W w.heap.size (⟨k, noVer, none, 0, none, 0, L, n, e⟩ : RV) = W9 at HK9 HB9 HS9 ⊢
      obtain ⟨_, _, z0, z1, z2, z3, z4, z5, z6⟩ := HK9.out
      exact bodyPost_ret (v := .agg #[.int .i64 k, .int .u64 0, .int .u64 0, .int .u64 0, .slice none 0 0, .slice none 0 0, .slice L n e]) (by simp [results, Tryz.results40, go_sem, z0, z1, z2, z3, z4, z5, z6, noVer]) rfl ⟨(⟨k, noVer, none, 0, none, 0, L, n, e⟩ : RV), rfl, HS9.out, HB9.out⟩
end Go.Proofs.YtgfbflnhjpbceaaGreatDoor.Nrm

namespace Go.Proofs.YtgfbflnhjpbceaaGreatDoor.Span
open Go.RowKit Num Ident Semver Prec

theorem sp_at (l : List RSp) (i : Nat) : (l.map RSp.sp).getD i default = (l.getD i default).sp := by
  by_cases h : i < l.length
  · simp [List.getD, List.getElem?_eq_getElem h]
  · simp [List.getD, List.getElem?_eq_none (Nat.le_of_not_lt h)]; rfl
/-- A span's twelve cells at a place. -/
def SpAt (w : World) (b o : Nat) (s : RSp) : Prop := ∀ i v, s.vals[i]? = some v → w.cell? ⟨b, o + i, none⟩ = some v
theorem SpAt.kept {w w' : World} {b o : Nat} {s : RSp} (h : SpAt w b o s) (hb : Below w.heap.size w w') (hlt : b < w.heap.size) : SpAt w' b o s := fun i v hv => (hb.cell (p := ⟨b, o + i, none⟩) hlt).trans (h i v hv)
theorem SpAt.cells {w : World} {b o : Nat} {s : RSp} (h : SpAt w b o s) : w.cell? ⟨b, o, none⟩ = some (.int .i64 s.lo.kind) ∧ w.cell? ⟨b, o + 1, none⟩ = some (.int .u64 (s.lo.v.a : Int)) ∧ w.cell? ⟨b, o + 2, none⟩ = some (.int .u64 (s.lo.v.b : Int)) ∧ w.cell? ⟨b, o + 3, none⟩ = some (.int .u64 (s.lo.v.c : Int)) ∧ w.cell? ⟨b, o + 4, none⟩ = some (.slice s.lo.A s.lo.v.pre.length s.lo.c) ∧ w.cell? ⟨b, o + 5, none⟩ = some (.slice s.lo.B s.lo.v.build.length s.lo.d) ∧ w.cell? ⟨b, o + 6, none⟩ = some (.int .i64 s.hi.kind) ∧ w.cell? ⟨b, o + 7, none⟩ = some (.int .u64 (s.hi.v.a : Int)) ∧ w.cell? ⟨b, o + 8, none⟩ = some (.int .u64 (s.hi.v.b : Int)) ∧ w.cell? ⟨b, o + 9, none⟩ = some (.int .u64 (s.hi.v.c : Int)) ∧ w.cell? ⟨b, o + 10, none⟩ = some (.slice s.hi.A s.hi.v.pre.length s.hi.c) ∧ w.cell? ⟨b, o + 11, none⟩ = some (.slice s.hi.B s.hi.v.build.length s.hi.d) :=
  ⟨h 0 _ rfl, h 1 _ rfl, h 2 _ rfl, h 3 _ rfl, h 4 _ rfl, h 5 _ rfl, h 6 _ rfl, h 7 _ rfl, h 8 _ rfl, h 9 _ rfl, h 10 _ rfl, h 11 _ rfl⟩
end Go.Proofs.YtgfbflnhjpbceaaGreatDoor.Span

namespace Go.Proofs.YtgfbflnhjpbceaaGreatDoor.Nrm
open Go.RowKit Num Ident Semver Prec Span
open Range (Rng noRng goodR goodL fits RV RAt RgRow LtB InS wt wtL wtL_len wt_mem KeepS zeroRV)
/-- A cut's version's range in memory. -/
def verRV (k : Int) (r : RCut) : RV := ⟨k, r.v, r.A, r.c, r.B, r.d, none, 0, 0⟩
/-- The blocks of texts that were there, and new ones. -/
def Strs (w : World) (B : Nat) (g : Nat) : Prop := B ≤ g ∧ (w.heap.size < g ∨ ∃ c, w.heap[g]? = some (.cells c 9 (0, 0)))
theorem strs_not (w : World) (B : Nat) : ¬ Strs w B w.heap.size := by
  rintro ⟨_, h | ⟨c, h⟩⟩
  · omega
  · rw [Array.getElem?_eq_none (Nat.le_refl _)] at h; cases h
theorem lies_ver {w W : World} {B : Nat} {r : RCut} (h : OwnC w B r) (hb : Below w.heap.size w W) (hg : goodV r.v = true) (k : Int) : Range.Lies W (Strs w B) (.mk k r.v []) (verRV k r) := by
  have hl := h.lies.kept hb
  refine Range.Lies.version k r.v r.A r.c r.B r.d hl.pre hl.build (fun h0 => ?_) (by rw [h.build]; exact InS.none_ _ _) h.cap (by rw [h.build]; exact Nat.zero_le _) (Range.fit_good hg)
  rcases h.own.2 with ⟨e1, _⟩ | ⟨g, cap, cur, e1, hg0, hgh, _⟩
  · injection e1 with e1 e2 e3; omega
  · injection e1 with e1 e2 e3
    exact ⟨g, 0, e1, hg0, .inr ⟨cur, hgh⟩⟩
def rvs (qs : List (Int × RCut)) : List RV := qs.map fun q => verRV q.1 q.2
def rgs (qs : List (Int × RCut)) : List Rng := qs.map fun q => Rng.mk q.1 q.2.v []
def loQ (r : RCut) : List (Int × RCut) := if r.kind = 1 then [(1, r)] else if r.kind = 2 then [(2, r)] else []
def hiQ (r : RCut) : List (Int × RCut) := if r.kind = 1 then [(4, r)] else if r.kind = 2 then [(3, r)] else []
def neQ (l : List RSp) : List (Int × RCut) := l.map fun s => (6, s.hi)
theorem loQ_part (r : RCut) : rgs (loQ r) = loPart r.cut := by
  unfold loQ loPart
  by_cases h1 : r.kind = 1
  · rw [if_pos h1, if_pos (show r.cut.kind = 1 from h1)]; rfl
  · by_cases h2 : r.kind = 2
    · rw [if_neg h1, if_pos h2, if_neg (show ¬ r.cut.kind = 1 from h1), if_pos (show r.cut.kind = 2 from h2)]; rfl
    · rw [if_neg h1, if_neg h2, if_neg (show ¬ r.cut.kind = 1 from h1), if_neg (show ¬ r.cut.kind = 2 from h2)]; rfl
theorem hiQ_part (r : RCut) : rgs (hiQ r) = hiPart r.cut := by
  unfold hiQ hiPart
  by_cases h1 : r.kind = 1
  · rw [if_pos h1, if_pos (show r.cut.kind = 1 from h1)]; rfl
  · by_cases h2 : r.kind = 2
    · rw [if_neg h1, if_pos h2, if_neg (show ¬ r.cut.kind = 1 from h1), if_pos (show r.cut.kind = 2 from h2)]; rfl
    · rw [if_neg h1, if_neg h2, if_neg (show ¬ r.cut.kind = 1 from h1), if_neg (show ¬ r.cut.kind = 2 from h2)]; rfl
theorem neQ_part (l : List RSp) : rgs (neQ l) = (l.map RSp.sp).map neOf := by
  unfold rgs neQ
  rw [List.map_map, List.map_map]; rfl
/-- All parts of a piece. -/
def allQ (l : List RSp) (p : Nat) : List (Int × RCut) := loQ (l.getD 0 default).lo ++ hiQ (l.getD p default).hi ++ neQ (l.take p)
theorem allQ_parts {l : List RSp} {p : Nat} (h : l.length = p + 1) : rgs (allQ l p) = parts (l.map RSp.sp) := by
  have e : rgs (allQ l p) = rgs (loQ (l.getD 0 default).lo) ++ rgs (hiQ (l.getD p default).hi) ++ rgs (neQ (l.take p)) := by
    unfold allQ rgs; rw [List.map_append, List.map_append]
  rw [e, loQ_part, hiQ_part, neQ_part]
  unfold parts lastOf
  rw [List.length_map, h, Nat.add_sub_cancel, sp_at, sp_at, List.map_take]; rfl
theorem loQ_mem {r : RCut} {q : Int × RCut} (h : q ∈ loQ r) : q.2 = r := by
  unfold loQ at h
  split at h
  · rw [List.mem_singleton] at h; subst h; rfl
  · split at h
    · rw [List.mem_singleton] at h; subst h; rfl
    · cases h
theorem hiQ_mem {r : RCut} {q : Int × RCut} (h : q ∈ hiQ r) : q.2 = r := by
  unfold hiQ at h
  split at h
  · rw [List.mem_singleton] at h; subst h; rfl
  · split at h
    · rw [List.mem_singleton] at h; subst h; rfl
    · cases h
theorem allQ_own {w : World} {B p : Nat} {l : List RSp} (h : l.length = p + 1) (ho : ∀ s ∈ l, OwnsS w B s) : ∀ q ∈ allQ l p, OwnC w B q.2 := by
  intro q hq
  unfold allQ at hq
  rcases List.mem_append.1 hq with hq | hq
  · rcases List.mem_append.1 hq with hq | hq
    · rw [loQ_mem hq]; exact (ho _ (getS_mem (by omega))).1
    · rw [hiQ_mem hq]; exact (ho _ (getS_mem (by omega))).2
  · unfold neQ at hq
    obtain ⟨s, hs, rfl⟩ := List.mem_map.1 hq
    exact (ho s (List.mem_of_mem_take hs)).2
theorem allQ_good {l : List RSp} {p : Nat} (h : l.length = p + 1) (hN : Span.Norm (l.map RSp.sp)) (hc : Chain (l.map RSp.sp)) : ∀ q ∈ allQ l p, goodV q.2.v = true := by
  intro q hq
  have hm : Rng.mk q.1 q.2.v [] ∈ parts (l.map RSp.sp) := by
    rw [← allQ_parts h]; exact List.mem_map_of_mem (f := fun q : Int × RCut => Rng.mk q.1 q.2.v []) hq
  obtain ⟨k, v, e, _, _, hv⟩ := parts_ver hN (by intro e; have := congrArg List.length e; simp [h] at this) hc _ hm
  injection e with _ e2 _
  rw [e2]; exact hv
theorem At6B.grown {w w' : World} {row : Option Nat} {b : Nat} {u0 u1 u2 u3 u4 u5 : Value} (h : At6B w b u0 u1 u2 u3 u4 u5) (hg : w.grownBy w' row) (hne : some b ≠ row) : At6B w' b u0 u1 u2 u3 u4 u5 := by
  obtain ⟨h1, h2, c0, c1, c2, c3, c4, c5⟩ := h
  have k := hg.block b h1 hne
  have kc : ∀ o, w'.cell? ⟨b, o, none⟩ = w.cell? ⟨b, o, none⟩ := fun o => World.cell?_of_block (w := w) (a := ⟨b, o, none⟩) k
  exact ⟨Nat.lt_of_lt_of_le h1 hg.size, fun o => (World.frozen?_of_block (w := w) (a := ⟨b, o, none⟩) k).trans (h2 o), (kc 0).trans c0, (kc 1).trans c1, (kc 2).trans c2, (kc 3).trans c3, (kc 4).trans c4, (kc 5).trans c5⟩
/-- A block holds a cut. -/
def CutIn (W : World) (b : Nat) (r : RCut) : Prop := At6B W b (.int .i64 r.kind) (.int .u64 (r.v.a : Int)) (.int .u64 (r.v.b : Int)) (.int .u64 (r.v.c : Int)) (.slice r.A r.v.pre.length r.c) (.slice r.B r.v.build.length r.d)
/-- What holds while a piece's parts are gathered. -/
structure PcAt (w W : World) (p5 p6 : Nat) (lo hi : RCut) (v : Value) (qs : List (Int × RCut)) : Prop where
  own : W.ownsRow (w.heap.size + 1) 28 7 v qs.length ((rvs qs).flatMap RV.vals)
  a5 : CutIn W p5 lo
  a6 : CutIn W p6 hi
  res : RAt W w.heap.size (zeroRV 0)
  bel : Below w.heap.size w W
  apart : ∀ g, v.ownBlock = some g → g ≠ p5 ∧ g ≠ p6
theorem PcAt.start {w W : World} {p5 p6 : Nat} {lo hi : RCut} (a5 : CutIn W p5 lo) (a6 : CutIn W p6 hi) (res : RAt W w.heap.size (zeroRV 0)) (bel : Below w.heap.size w W) : PcAt w W p5 p6 lo hi (.slice none 0 0) [] :=
  ⟨World.ownsRow_nil _ _ _ _, a5, a6, res, bel, fun g h => by cases h⟩
theorem PcAt.kept {w W W' : World} {p5 p6 : Nat} {lo hi : RCut} {v : Value} {qs : List (Int × RCut)} (h : PcAt w W p5 p6 lo hi v qs) (hb : Below W.heap.size W W') : PcAt w W' p5 p6 lo hi v qs :=
  ⟨own_below h.own hb, Span.At6B.kept h.a5 hb h.a5.1, Span.At6B.kept h.a6 hb h.a6.1, h.res.kept hb h.res.1, h.bel.trans (hb.mono h.bel.size), h.apart⟩
theorem PcAt.more {w W W' : World} {p5 p6 : Nat} {lo hi : RCut} {v v' : Value} {qs : List (Int × RCut)} (h : PcAt w W p5 p6 lo hi v qs) (k : Int) (r : RCut) (ho : W'.ownsRow (w.heap.size + 1) 28 7 v' (qs.length + 1) ((rvs qs ++ [verRV k r]).flatMap RV.vals)) (hg : W.grownBy W' v.ownBlock)
    (hat : v'.ownBlock = v.ownBlock ∨ v'.ownBlock = some W.heap.size) : PcAt w W' p5 p6 lo hi v' (qs ++ [(k, r)]) := by
  have ne5 : some p5 ≠ v.ownBlock := fun e => (h.apart p5 e.symm).1 rfl
  have ne6 : some p6 ≠ v.ownBlock := fun e => (h.apart p6 e.symm).2 rfl
  have ner : some w.heap.size ≠ v.ownBlock := fun e => by have := (h.own.lt _ e.symm).1; omega
  refine ⟨?_, At6B.grown h.a5 hg ne5, At6B.grown h.a6 hg ne6, h.res.grown hg ner, h.bel.trans ((Below.refl _ _).grown hg h.bel.size fun g e => by have := (h.own.lt _ e).1; omega), fun g e => ?_⟩
  · rw [List.length_append]
    have e : rvs (qs ++ [(k, r)]) = rvs qs ++ [verRV k r] := by unfold rvs; rw [List.map_append]; rfl
    rw [e]; exact ho
  · rcases hat with e2 | e2
    · exact h.apart g (e2 ▸ e)
    · rw [e2] at e
      injection e with e
      have h5 := h.a5.1
      have h6 := h.a6.1
      exact ⟨by omega, by omega⟩
theorem PcAt.row {w W : World} {p5 p6 B : Nat} {lo hi : RCut} {v : Value} {qs : List (Int × RCut)} (h : PcAt w W p5 p6 lo hi v qs) (hB : B ≤ w.heap.size) (ho : ∀ q ∈ qs, OwnC w B q.2) (hg : ∀ q ∈ qs, goodV q.2.v = true) :
    ∃ L e, v = .slice L qs.length e ∧ qs.length ≤ e ∧ (L = none → e = 0) ∧ RgRow W (Strs w B) L qs.length (rgs qs) := by
  refine Range.RgRow.of_own h.own (fun g hg => ⟨by omega, .inl (by omega)⟩) (by unfold rvs; rw [List.length_map]) (by unfold rgs; rw [List.length_map]) fun j hj => ?_
  have hm : qs[j] ∈ qs := List.getElem_mem hj
  have e1 : (rgs qs).getD j noRng = .mk qs[j].1 qs[j].2.v [] := by
    unfold rgs; rw [List.getD_eq_getElem?_getD, List.getElem?_map, List.getElem?_eq_getElem hj]; rfl
  have e2 : (rvs qs).getD j default = verRV qs[j].1 qs[j].2 := by
    unfold rvs; rw [List.getD_eq_getElem?_getD, List.getElem?_map, List.getElem?_eq_getElem hj]; rfl
  rw [e1, e2]
  exact lies_ver (ho _ hm) h.bel (hg _ hm) _
end Go.Proofs.YtgfbflnhjpbceaaGreatDoor.Nrm

namespace Go.Proofs.YtgfbflnhjpbceaaGreatDoor.Nrm
open Go.RowKit Num Ident Semver Prec Span
/-- A small number as a float's bits. -/
def fb (k : Nat) : Nat := floatOfInt .f64 (k : Int)
theorem fb_zero : fb 0 = 0 := by decide +kernel
theorem fb_one : fb 1 = 4607182418800017408 := by decide +kernel
theorem fb_add0 : ∀ k, k < 151 → floatBits .add .f64 (fb k) 0 = some (fb k) := by decide +kernel
theorem fb_add1 : ∀ k, k < 151 → floatBits .add .f64 (fb k) 4607182418800017408 = some (fb (k + 1)) := by decide +kernel
theorem fb_same : ∀ k, k < 151 → (FloatKind.f64.format.order (fb k) (fb k) == some .eq) = true := by decide +kernel
theorem fb_next : ∀ k, k < 151 → (FloatKind.f64.format.order (fb k) (fb (k + 1)) == some .eq) = false := by decide +kernel
def riseN (a b : Cut) : Nat := if isPoint a b = true then 0 else 1
theorem fb_rise {k : Nat} (hk : k < 151) (a b : Cut) : floatBits .add .f64 (fb k) (fb (riseN a b)) = some (fb (k + riseN a b)) := by
  unfold riseN
  split
  · rw [fb_zero]; exact fb_add0 k hk
  · rw [fb_one]; exact fb_add1 k hk
theorem fb_eq {k : Nat} (hk : k < 151) (a b : Cut) : (FloatKind.f64.format.order (fb k) (fb (k + riseN a b)) == some .eq) = isPoint a b := by
  unfold riseN
  cases h : isPoint a b with
  | true => rw [if_pos rfl]; exact fb_same k hk
  | false => rw [if_neg (by simp)]; exact fb_next k hk
set_option maxRecDepth 100000 in
set_option maxHeartbeats 1600000 in
theorem rise_any (a b : RCut) (w : World) (ha : Span.Lies w a) (hb : Span.Lies w b) :
    Calls Tryz.prog 107 #[.agg #[.int .i64 a.kind, .int .u64 (a.v.a : Int), .int .u64 (a.v.b : Int), .int .u64 (a.v.c : Int), .slice a.A a.v.pre.length a.c, .slice a.B a.v.build.length a.d], .agg #[.int .i64 b.kind, .int .u64 (b.v.a : Int), .int .u64 (b.v.b : Int), .int .u64 (b.v.c : Int), .slice b.A b.v.pre.length b.c, .slice b.B b.v.build.length b.d]] w fun e w' => e = .returned (.float .f64 (fb (riseN a.cut b.cut))) ∧ Below w.heap.size w w' := by
  have HB0 : Hid (Below w.heap.size w ((w.alloc (.cells #[.int .i64 a.kind, .int .u64 (a.v.a : Int), .int .u64 (a.v.b : Int), .int .u64 (a.v.c : Int), .slice a.A a.v.pre.length a.c, .slice a.B a.v.build.length a.d] 41)).alloc (.cells #[.int .i64 b.kind, .int .u64 (b.v.a : Int), .int .u64 (b.v.b : Int), .int .u64 (b.v.c : Int), .slice b.A b.v.pre.length b.c, .slice b.B b.v.build.length b.d] 41))) := ((Below.refl _ _).alloc (Nat.le_refl _) _).alloc (by simp) _
  have X1 : Hid (At6B ((w.alloc (.cells #[.int .i64 a.kind, .int .u64 (a.v.a : Int), .int .u64 (a.v.b : Int), .int .u64 (a.v.c : Int), .slice a.A a.v.pre.length a.c, .slice a.B a.v.build.length a.d] 41)).alloc (.cells #[.int .i64 b.kind, .int .u64 (b.v.a : Int), .int .u64 (b.v.b : Int), .int .u64 (b.v.c : Int), .slice b.A b.v.pre.length b.c, .slice b.B b.v.build.length b.d] 41)) w.heap.size (.int .i64 a.kind) (.int .u64 (a.v.a : Int)) (.int .u64 (a.v.b : Int)) (.int .u64 (a.v.c : Int)) (.slice a.A a.v.pre.length a.c) (.slice a.B a.v.build.length a.d)) := (At6B.new w 41 (.int .i64 a.kind) (.int .u64 (a.v.a : Int)) (.int .u64 (a.v.b : Int)) (.int .u64 (a.v.c : Int)) (.slice a.A a.v.pre.length a.c) (.slice a.B a.v.build.length a.d)).kept ((Below.refl _ _).alloc (Nat.le_refl _) _) (by simp)
  have Y1 : Hid (At6B ((w.alloc (.cells #[.int .i64 a.kind, .int .u64 (a.v.a : Int), .int .u64 (a.v.b : Int), .int .u64 (a.v.c : Int), .slice a.A a.v.pre.length a.c, .slice a.B a.v.build.length a.d] 41)).alloc (.cells #[.int .i64 b.kind, .int .u64 (b.v.a : Int), .int .u64 (b.v.b : Int), .int .u64 (b.v.c : Int), .slice b.A b.v.pre.length b.c, .slice b.B b.v.build.length b.d] 41)) (w.heap.size + 1) (.int .i64 b.kind) (.int .u64 (b.v.a : Int)) (.int .u64 (b.v.b : Int)) (.int .u64 (b.v.c : Int)) (.slice b.A b.v.pre.length b.c) (.slice b.B b.v.build.length b.d)) := by
    have := At6B.new (w.alloc (.cells #[.int .i64 a.kind, .int .u64 (a.v.a : Int), .int .u64 (a.v.b : Int), .int .u64 (a.v.c : Int), .slice a.A a.v.pre.length a.c, .slice a.B a.v.build.length a.d] 41)) 41 (.int .i64 b.kind) (.int .u64 (b.v.a : Int)) (.int .u64 (b.v.b : Int)) (.int .u64 (b.v.c : Int)) (.slice b.A b.v.pre.length b.c) (.slice b.B b.v.build.length b.d)
    rw [size_alloc] at this; exact this
  have HLa := Lib.hid ha
  have HLb := Lib.hid hb
  have HP := Lib.hid (isPoint_iff a.cut b.cut)
  clear ha hb
  generalize hR : fb (riseN a.cut b.cut) = R
  have H0 : Hid (isPoint a.cut b.cut = true → R = 0) := fun h => by rw [← hR]; unfold riseN; rw [if_pos h]; exact fb_zero
  have H1 : Hid (isPoint a.cut b.cut ≠ true → R = 4607182418800017408) := fun h => by rw [← hR]; unfold riseN; rw [if_neg h]; exact fb_one
  clear hR
  go_enter Tryz.func107, Tryz.ntmps107
  go_upto_region 1 with (fail)
  generalize ((w.alloc (.cells #[.int .i64 a.kind, .int .u64 (a.v.a : Int), .int .u64 (a.v.b : Int), .int .u64 (a.v.c : Int), .slice a.A a.v.pre.length a.c, .slice a.B a.v.build.length a.d] 41)).alloc (.cells #[.int .i64 b.kind, .int .u64 (b.v.a : Int), .int .u64 (b.v.b : Int), .int .u64 (b.v.c : Int), .slice b.A b.v.pre.length b.c, .slice b.B b.v.build.length b.d] 41)) = W at HB0 X1 Y1 ⊢
  obtain ⟨_, _, a0, a1, a2, a3, a4, a5⟩ := X1.out
  obtain ⟨_, _, b0, b1, b2, b3, b4, b5⟩ := Y1.out
  by_cases h1 : a.kind = 1
  · by_cases h2 : b.kind = 2
    · have HK1 := Lib.hid h1
      have HK2 := Lib.hid h2
      rw [h1] at a0
      rw [h2] at b0
      clear h1 h2
      go_wp2_with fail
      refine (compare_any a.v b.v a.A a.B b.A b.B a.c a.d b.c b.d _ (HLa.out.pre.kept HB0.out) (HLb.out.pre.kept HB0.out) HLa.out.fpre HLb.out.fpre).mono ?_
      rintro e w2 ⟨rfl, hb⟩
      have HB := Lib.hid (HB0.out.trans (hb.mono HB0.out.size))
      clear hb
      by_cases h3 : cmpV a.v b.v = 0
      · obtain rfl := H0.out (HP.out.2 ⟨HK1.out, HK2.out, h3⟩)
        rw [h3]
        clear h3 H0 H1
        go_wp2; go_ret
        exact ⟨rfl, HB.out⟩
      · obtain rfl := H1.out (fun h => h3 (HP.out.1 h).2.2)
        have q3 : (cmpV a.v b.v == 0) = false := by simp [h3]
        clear h3 H0 H1
        go_wp2; go_ret
        exact ⟨rfl, HB.out⟩
    · obtain rfl := H1.out (fun h => h2 (HP.out.1 h).2.1)
      have q2 : (b.kind == 2) = false := by simp [h2]
      rw [h1] at a0
      clear h1 h2 H0 H1
      go_wp2; go_ret
      exact ⟨rfl, HB0.out⟩
  · obtain rfl := H1.out (fun h => h1 (HP.out.1 h).1)
    have q1 : (a.kind == 1) = false := by simp [h1]
    clear h1 H0 H1
    go_wp2; go_ret
    exact ⟨rfl, HB0.out⟩
end Go.Proofs.YtgfbflnhjpbceaaGreatDoor.Nrm

namespace Go.Proofs.YtgfbflnhjpbceaaGreatDoor.Nrm
open Go.RowKit Num Ident Semver Prec Span
/-- The cut ahead of a span's; the ranks. -/
def lastC (L : List Sp) (i : Nat) : Cut := if i = 0 then low else (L.getD (i - 1) default).hi
def pk (L : List Sp) : Nat → Nat
  | 0 => 0
  | i + 1 => pk L i + riseN (lastC L i) (L.getD i default).lo + riseN (L.getD i default).lo (L.getD i default).hi
def lk (L : List Sp) (i : Nat) : Nat := pk L i + riseN (lastC L i) (L.getD i default).lo
theorem rise_le (a b : Cut) : riseN a b ≤ 1 := by unfold riseN; split <;> omega
theorem pk_le (L : List Sp) : ∀ i, pk L i ≤ 2 * i
  | 0 => Nat.le_refl _
  | i + 1 => by
    have h1 := rise_le (lastC L i) (L.getD i default).lo
    have h2 := rise_le (L.getD i default).lo (L.getD i default).hi
    have h3 := pk_le L i
    show pk L i + riseN (lastC L i) (L.getD i default).lo + riseN (L.getD i default).lo (L.getD i default).hi ≤ 2 * (i + 1)
    omega
theorem lk_le (L : List Sp) (i : Nat) : lk L i ≤ 2 * i + 1 := by
  have h1 := rise_le (lastC L i) (L.getD i default).lo
  have h3 := pk_le L i
  unfold lk; omega
theorem pk_lk (L : List Sp) (i : Nat) : pk L (i + 1) = lk L i + riseN (L.getD i default).lo (L.getD i default).hi := rfl
theorem lk_next (L : List Sp) (i : Nat) : lk L (i + 1) = pk L (i + 1) + riseN (L.getD i default).hi (L.getD (i + 1) default).lo := rfl
/-- The ends of the first spans; 0 for the others. -/
def ends (L : List Sp) (k : Nat) (j : Nat) : Value := if j < k then .complex .f64 (fb (lk L j)) (fb (pk L (j + 1))) else .complex .f64 0 0
/-- A block of so many cells, none frozen. -/
def CxAt (W : World) (g n : Nat) (E : Nat → Value) : Prop := g < W.heap.size ∧ (∀ o, W.frozen? ⟨g, o, none⟩ = false) ∧ ∀ j, j < n → W.cell? ⟨g, j, none⟩ = some (E j)
theorem CxAt.kept {W W' : World} {g n : Nat} {E : Nat → Value} (h : CxAt W g n E) (hb : Below W.heap.size W W') : CxAt W' g n E :=
  ⟨Nat.lt_of_lt_of_le h.1 hb.size, fun o => (hb.frozen (p := ⟨g, o, none⟩) h.1).trans (h.2.1 o), fun j hj => (hb.cell (p := ⟨g, j, none⟩) h.1).trans (h.2.2 j hj)⟩
theorem CxAt.next {W : World} {g n k : Nat} {L : List Sp} (h : CxAt W g n (ends L k)) (hk : k < n) : CxAt (W.setCell ⟨g, k, none⟩ (.complex .f64 (fb (lk L k)) (fb (pk L (k + 1))))) g n (ends L (k + 1)) := by
  refine ⟨by simpa using h.1, fun o => by simp [go_sem, h.2.1], fun j hj => ?_⟩
  by_cases e : j = k
  · subst e
    rw [World.cell?_setCell_same _ _ _ (h.2.2 j hj)]
    unfold ends; rw [if_pos (by omega)]
  · rw [World.cell?_setCell_other _ _ _ _ (by intro q; injection q with _ q2; exact e q2.symm), h.2.2 j hj]
    unfold ends
    by_cases hlt : j < k
    · rw [if_pos hlt, if_pos (by omega)]
    · rw [if_neg hlt, if_neg (by omega)]
theorem CxAt.new (w : World) (n : Nat) (L : List Sp) (t : TypeId) : CxAt (w.alloc (.cells (madeCells #[.complex .f64 0 0] n) t)) w.heap.size n (ends L 0) := by
  have hh : (w.alloc (.cells (madeCells #[.complex .f64 0 0] n) t)).heap[w.heap.size]? = some (.cells (madeCells #[.complex .f64 0 0] n) t) := by
    show (w.heap.push _)[w.heap.size]? = _
    simp
  refine ⟨by simp, fun o => by simp [go_sem], fun j hj => ?_⟩
  rw [cell_of_row _ _ _ _ t (0, 0) hh]
  unfold ends
  rw [if_neg (by omega)]
  have e : (madeCells #[Value.complex .f64 0 0] n)[j]? = some (.complex .f64 0 0) := by
    unfold madeCells
    rw [Array.getElem?_map, Array.getElem?_range, if_pos hj]
    simp [Nat.mod_one]
  simpa using e
theorem CxAt.six {W : World} {g n b : Nat} {E : Nat → Value} (h : CxAt W g n E) (hne : g ≠ b) (v0 v1 v2 v3 v4 v5 : Value) : CxAt (Span.set6 W b v0 v1 v2 v3 v4 v5) g n E := by
  have one : ∀ (W : World) (o : Nat) (v : Value), CxAt W g n E → CxAt (W.setCell ⟨b, o, none⟩ v) g n E := fun W o v h =>
    ⟨by simpa using h.1, fun o => by simp [go_sem, h.2.1], fun j hj => (World.cell?_setCell_other _ _ _ _ (by intro e; injection e with e; exact hne e.symm)).trans (h.2.2 j hj)⟩
  unfold Span.set6
  exact one _ _ _ (one _ _ _ (one _ _ _ (one _ _ _ (one _ _ _ (one _ _ _ h)))))
theorem run_store_cx (P : Program) (w : World) (a : Addr) (m : Mode) (k : FloatKind) (x y : Nat) : (store a (.complex k x y) m).run P w = stored P w a (.complex k x y) m := run_store P w a _ m rfl
theorem cxInfo : (Tryz.prog.info? 106).map (fun i => (i.zero, i.size, i.bytes)) = some (some (.complex .f64 0 0), 1, 16) := by kernel_rfl
/-- make([]complex128, n). -/
theorem run_make_cx (n : Nat) (hn : n ≤ 1000000) (w : World) : (Instr.makeSlice 103 (.int .i64 (n : Int)) (.int .i64 (n : Int))).run Tryz.prog w = .ok (.slice (some ⟨w.heap.size, 0, none⟩) n n) (w.alloc (.cells (madeCells #[.complex .f64 0 0] n) 106)) := by
  obtain ⟨i, hi, hz, hs, hby⟩ := info_parts cxInfo
  have hr := run_make (P := Tryz.prog) w 103 106 i (.complex .f64 0 0) Tryz.underlying103 hi hz .i64 .i64 (n : Int) (n : Int) (by omega) (by omega) (by rw [hby]; omega) (by omega)
  rw [hs] at hr
  simp only [Int.toNat_natCast, Nat.mul_one] at hr
  exact hr
/-- What holds while ranks are told. -/
def RkJ (w : World) (A : Option Addr) (n c : Nat) (l : List RSp) (a' : Act) (W : World) : Prop :=
  ∃ (k : Nat) (z : RCut) (u1 : Value) (u7 u8 u9 u10 u11 u12 u13 u14 u15 u16 u17 u18 u19 u20 u21 u22 u23 u24 u25 u26 u27 u28 u29 u30 u31 u32 u33 u34 u35 u36 u37 u38 u39 u40 u41 u42 u43 u44 u45 u46 u47 u48 u49 u50 : Value), k ≤ n ∧ Hid (CxAt W w.heap.size n (ends (l.map RSp.sp) k)) ∧ Hid (At6B W (w.heap.size + 1) (.int .i64 z.kind) (.int .u64 (z.v.a : Int)) (.int .u64 (z.v.b : Int)) (.int .u64 (z.v.c : Int)) (.slice z.A z.v.pre.length z.c) (.slice z.B z.v.build.length z.d)) ∧ Hid (z.cut = lastC (l.map RSp.sp) k) ∧ Hid (Span.Lies W z) ∧ Hid (Below w.heap.size w W) ∧
    a' = { tmps := #[.slice A n c, u1, .slice none 0 0, .slice (some ⟨w.heap.size, 0, none⟩) n n, .pointer (some ⟨w.heap.size + 1, 0, none⟩), .int .i64 (k : Int), .float .f64 (fb (pk (l.map RSp.sp) k)), u7, u8, u9, u10, u11, u12, u13, u14, u15, u16, u17, u18, u19, u20, u21, u22, u23, u24, u25, u26, u27, u28, u29, u30, u31, u32, u33, u34, u35, u36, u37, u38, u39, u40, u41, u42, u43, u44, u45, u46, u47, u48, u49, u50], defers := [] }
def RkM (n : Nat) (a' : Act) (_ : World) : Nat := n - (intOf (a'.tmps.getD 5 undef)).toNat
attribute [local go_sem] run_store_cx
set_option maxRecDepth 100000 in
set_option maxHeartbeats 6400000 in
theorem ranked_any (A : Option Addr) (n c : Nat) (l : List RSp) (w : World) (hr : SpRow w A n l) (hn : n ≤ 74) :
    Calls Tryz.prog 75 #[.slice A n c] w fun e w' => e = .returned (.slice (some ⟨w.heap.size, 0, none⟩) n n) ∧ CxAt w' w.heap.size n (ends (l.map RSp.sp) n) ∧ Below w.heap.size w w' := by
  have HR := Lib.hid hr
  have hmk := fun W => run_make_cx n (by omega) W
  clear hr
  go_enter Tryz.func75, Tryz.ntmps75
  go_upto_region 1 with (fail)
  go_wp2
  refine wp_scope_back 0 (RkJ w A n c l) (RkM n) rfl ?_ ?_
  · rintro a' W ⟨k, z, u1, u7, u8, u9, u10, u11, u12, u13, u14, u15, u16, u17, u18, u19, u20, u21, u22, u23, u24, u25, u26, u27, u28, u29, u30, u31, u32, u33, u34, u35, u36, u37, u38, u39, u40, u41, u42, u43, u44, u45, u46, u47, u48, u49, u50, hk, HX, HZ, HZc, HLz, HB, rfl⟩
    by_cases hlt : k < n
    · obtain ⟨b, o, rfl, hbw, hcell⟩ := HR.out.2.2 (by omega)
      have HS : Hid (SpAt W.drew b (o + k * 12) (l.getD k default)) := fun i v hv => (HB.out.cell (p := ⟨b, o + k * 12 + i, none⟩) hbw).trans (hcell k hlt i v hv)
      have HLs : Hid (LiesS W.drew (l.getD k default)) := (HR.out.lies hlt).kept HB.out.drew
      have hsp := sp_at l k
      obtain ⟨s, hs⟩ : ∃ s, s = l.getD k default := ⟨_, rfl⟩
      rw [← hs] at HS HLs hsp
      have HLw : Hid (Span.Lies w s.hi) := by rw [hs]; exact (HR.out.lies hlt).hi
      have HF1 : Hid (floatBits .add .f64 (fb (pk (l.map RSp.sp) k)) (fb (riseN (lastC (l.map RSp.sp) k) s.lo.cut)) = some (fb (lk (l.map RSp.sp) k))) := by
        have := fb_rise (k := pk (l.map RSp.sp) k) (by have := pk_le (l.map RSp.sp) k; omega) (lastC (l.map RSp.sp) k) s.lo.cut
        rw [this]; unfold lk; rw [hsp]; rfl
      have HF2 : Hid (floatBits .add .f64 (fb (lk (l.map RSp.sp) k)) (fb (riseN s.lo.cut s.hi.cut)) = some (fb (pk (l.map RSp.sp) (k + 1)))) := by
        have := fb_rise (k := lk (l.map RSp.sp) k) (by have := lk_le (l.map RSp.sp) k; omega) s.lo.cut s.hi.cut
        rw [this, pk_lk, hsp]; rfl
      have HNx : Hid (s.hi.cut = lastC (l.map RSp.sp) (k + 1)) := by
        unfold Hid lastC; rw [if_neg (by omega), Nat.add_sub_cancel, hsp]; rfl
      have hne : ¬ k = n := by omega
      replace HX : Hid (CxAt W.drew w.heap.size n (ends (l.map RSp.sp) k)) := HX.out
      replace HZ : Hid (At6B W.drew (w.heap.size + 1) (.int .i64 z.kind) (.int .u64 (z.v.a : Int)) (.int .u64 (z.v.b : Int)) (.int .u64 (z.v.c : Int)) (.slice z.A z.v.pre.length z.c) (.slice z.B z.v.build.length z.d)) := HZ.out
      replace HLz : Hid (Span.Lies W.drew z) := HLz.out.kept (Below.refl _ _).drew
      replace HB : Hid (Below w.heap.size w W.drew) := HB.out.drew
      clear hs hcell hsp
      go_upto_region 6 with (fail)
      refine wp_region_held_drew (S := fun w' => At6B w' (w.heap.size + 1) (.int .i64 z.kind) (.int .u64 (z.v.a : Int)) (.int .u64 (z.v.b : Int)) (.int .u64 (z.v.c : Int)) (.slice z.A z.v.pre.length z.c) (.slice z.B z.v.build.length z.d) ∧ SpAt w' b (o + k * 12) s) (by kernel_rfl) ⟨HZ.out, HS.out⟩ (fun hHeld => ?_)
      generalize W.drew = W1 at HX HZ HS HLz HLs HB hHeld ⊢
      refine wpAnyH_take (i := 0) (oi := { dst := some 16, op := Op.move (Operand.tmp 6), type := 105, pos := _, after := _, guard := none }) (v := .float .f64 (fb (pk (l.map RSp.sp) k))) rfl (by kernel_rfl) (by kernel_rfl) (by kernel_rfl) (fun _ _ _ h => h) (Or.inl ⟨by rfl, fun w' hS' => by go_simp⟩) (by assumption) ?_
      simp only [Act.put, List.setIfInBounds_toArray, List.set_cons_zero, List.set_cons_succ]
      refine wpAnyH_take (i := 1) (oi := { dst := some 17, op := Op.load 41 (Operand.tmp 4), type := 41, pos := _, after := _, guard := none }) (v := .agg #[.int .i64 z.kind, .int .u64 (z.v.a : Int), .int .u64 (z.v.b : Int), .int .u64 (z.v.c : Int), .slice z.A z.v.pre.length z.c, .slice z.B z.v.build.length z.d]) rfl (by kernel_rfl) (by kernel_rfl) (by kernel_rfl) (fun _ _ _ h => h) (Or.inl ⟨by rfl, fun w' hS' => by obtain ⟨_, _, a0, a1, a2, a3, a4, a5⟩ := hS'.1; go_simp⟩) (by assumption) ?_
      simp only [Act.put, List.setIfInBounds_toArray, List.set_cons_zero, List.set_cons_succ]
      refine wpAnyH_take (i := 2) (oi := { dst := some 18, op := Op.move (Operand.tmp 0), type := 31, pos := _, after := _, guard := none }) (v := .slice (some ⟨b, o, none⟩) n c) rfl (by kernel_rfl) (by kernel_rfl) (by kernel_rfl) (fun _ _ _ h => h) (Or.inl ⟨by rfl, fun w' hS' => by go_simp⟩) (by assumption) ?_
      simp only [Act.put, List.setIfInBounds_toArray, List.set_cons_zero, List.set_cons_succ]
      refine wpAnyH_take (i := 3) (oi := { dst := some 19, op := Op.move (Operand.tmp 5), type := 3, pos := _, after := _, guard := none }) (v := .int .i64 (k : Int)) rfl (by kernel_rfl) (by kernel_rfl) (by kernel_rfl) (fun _ _ _ h => h) (Or.inl ⟨by rfl, fun w' hS' => by go_simp⟩) (by assumption) ?_
      simp only [Act.put, List.setIfInBounds_toArray, List.set_cons_zero, List.set_cons_succ]
      refine wpAnyH_take (i := 4) (oi := { dst := some 20, op := Op.indexAddr 31 (Operand.tmp 18) (Operand.tmp 19), type := 0, pos := _, after := _, guard := none }) (v := .pointer (some ⟨b, o + k * 12, none⟩)) rfl (by kernel_rfl) (by kernel_rfl) (by kernel_rfl) (fun _ _ _ h => h) (Or.inl ⟨by rfl, fun w' hS' => by go_simp⟩) (by assumption) ?_
      simp only [Act.put, List.setIfInBounds_toArray, List.set_cons_zero, List.set_cons_succ]
      refine wpAnyH_take (i := 5) (oi := { dst := some 21, op := Op.fieldAddr 43 (Operand.tmp 20) 0, type := 0, pos := _, after := _, guard := none }) (v := .pointer (some ⟨b, o + k * 12, none⟩)) rfl (by kernel_rfl) (by kernel_rfl) (by kernel_rfl) (fun _ _ _ h => h) (Or.inl ⟨by rfl, fun w' hS' => by go_simp⟩) (by assumption) ?_
      simp only [Act.put, List.setIfInBounds_toArray, List.set_cons_zero, List.set_cons_succ]
      refine wpAnyH_take (i := 6) (oi := { dst := some 22, op := Op.load 41 (Operand.tmp 21), type := 41, pos := _, after := _, guard := none }) (v := .agg #[.int .i64 s.lo.kind, .int .u64 (s.lo.v.a : Int), .int .u64 (s.lo.v.b : Int), .int .u64 (s.lo.v.c : Int), .slice s.lo.A s.lo.v.pre.length s.lo.c, .slice s.lo.B s.lo.v.build.length s.lo.d]) rfl (by kernel_rfl) (by kernel_rfl) (by kernel_rfl) (fun _ _ _ h => h) (Or.inl ⟨by rfl, fun w' hS' => by obtain ⟨s0, s1, s2, s3, s4, s5, s6, s7, s8, s9, s10, s11⟩ := SpAt.cells hS'.2; go_simp⟩) (by assumption) ?_
      simp only [Act.put, List.setIfInBounds_toArray, List.set_cons_zero, List.set_cons_succ]
      refine wpAnyH_ready (rs := [7]) (by kernel_rfl) (by simp) ?_
      refine AllReadyH.cons (o := { dst := some 23, op := Op.call { callee := Callee.value (Operand.func 107), args := #[Operand.tmp 17, Operand.tmp 22], argTypes := #[41, 41] }, type := 105, pos := _, after := _, guard := none }) rfl (fun K hK => ?_) AllReadyH.nil
      go_simp
      refine (rise_any z s.lo _ HLz.out HLs.out.lo).mono ?_
      rintro e wp1 ⟨rfl, hb⟩
      replace HX := Lib.hid (HX.out.kept hb)
      replace HZ := Lib.hid (HZ.out.kept hb HZ.out.1)
      replace HS := Lib.hid (HS.out.kept hb (Nat.lt_of_lt_of_le hbw HB.out.size))
      replace HLz := Lib.hid (HLz.out.kept hb)
      replace HLs := Lib.hid (HLs.out.kept hb)
      replace HB := Lib.hid (HB.out.trans (hb.mono HB.out.size))
      rw [HZc.out]
      clear hb hHeld
      refine hK.out _ _ ⟨HZ.out, HS.out⟩ (fun hHeld => ?_)
      clear hK K
      try simp only [Act.put, List.setIfInBounds_toArray, List.set_cons_zero, List.set_cons_succ]
      refine wpAnyH_take (i := 8) (oi := { dst := some 24, op := Op.binOp BinOp.add 105 (Operand.tmp 16) (Operand.tmp 23) 105, type := 105, pos := _, after := _, guard := none }) (v := .float .f64 (fb (lk (l.map RSp.sp) k))) rfl (by kernel_rfl) (by kernel_rfl) (by kernel_rfl) (fun _ _ _ h => h) (Or.inl ⟨by rfl, fun w' hS' => by have hf := run_float_arith (P := Tryz.prog) w' .add 105 .f64 _ _ _ HF1.out; go_simp⟩) (by assumption) ?_
      simp only [Act.put, List.setIfInBounds_toArray, List.set_cons_zero, List.set_cons_succ]
      refine wpAnyH_take (i := 9) (oi := { dst := some 7, op := Op.assign (Operand.tmp 24), type := 105, pos := _, after := _, guard := none }) (v := .float .f64 (fb (lk (l.map RSp.sp) k))) rfl (by kernel_rfl) (by kernel_rfl) (by kernel_rfl) (fun _ _ _ h => h) (Or.inl ⟨by rfl, fun w' hS' => by go_simp⟩) (by assumption) ?_
      simp only [Act.put, List.setIfInBounds_toArray, List.set_cons_zero, List.set_cons_succ]
      refine wpAnyH_done (by kernel_rfl) ?_ _
      go_upto_region 7 with (fail)
      replace HX : Hid (CxAt wp1.drew w.heap.size n (ends (l.map RSp.sp) k)) := HX.out
      replace HZ : Hid (At6B wp1.drew (w.heap.size + 1) (.int .i64 z.kind) (.int .u64 (z.v.a : Int)) (.int .u64 (z.v.b : Int)) (.int .u64 (z.v.c : Int)) (.slice z.A z.v.pre.length z.c) (.slice z.B z.v.build.length z.d)) := HZ.out
      replace HS : Hid (SpAt wp1.drew b (o + k * 12) s) := HS.out
      replace HLs : Hid (LiesS wp1.drew s) := HLs.out.kept (Below.refl _ _).drew
      replace HB : Hid (Below w.heap.size w wp1.drew) := HB.out.drew
      refine wp_region_held_drew (S := fun w' => At6B w' (w.heap.size + 1) (.int .i64 z.kind) (.int .u64 (z.v.a : Int)) (.int .u64 (z.v.b : Int)) (.int .u64 (z.v.c : Int)) (.slice z.A z.v.pre.length z.c) (.slice z.B z.v.build.length z.d) ∧ SpAt w' b (o + k * 12) s) (by kernel_rfl) ⟨HZ.out, HS.out⟩ (fun hHeld => ?_)
      generalize wp1.drew = W2 at HX HZ HS HLs HB hHeld ⊢
      refine wpAnyH_take (i := 0) (oi := { dst := some 25, op := Op.move (Operand.tmp 7), type := 105, pos := _, after := _, guard := none }) (v := .float .f64 (fb (lk (l.map RSp.sp) k))) rfl (by kernel_rfl) (by kernel_rfl) (by kernel_rfl) (fun _ _ _ h => h) (Or.inl ⟨by rfl, fun w' hS' => by go_simp⟩) (by assumption) ?_
      simp only [Act.put, List.setIfInBounds_toArray, List.set_cons_zero, List.set_cons_succ]
      refine wpAnyH_take (i := 1) (oi := { dst := some 26, op := Op.move (Operand.tmp 0), type := 31, pos := _, after := _, guard := none }) (v := .slice (some ⟨b, o, none⟩) n c) rfl (by kernel_rfl) (by kernel_rfl) (by kernel_rfl) (fun _ _ _ h => h) (Or.inl ⟨by rfl, fun w' hS' => by go_simp⟩) (by assumption) ?_
      simp only [Act.put, List.setIfInBounds_toArray, List.set_cons_zero, List.set_cons_succ]
      refine wpAnyH_take (i := 6) (oi := { dst := some 31, op := Op.move (Operand.tmp 0), type := 31, pos := _, after := _, guard := none }) (v := .slice (some ⟨b, o, none⟩) n c) rfl (by kernel_rfl) (by kernel_rfl) (by kernel_rfl) (fun _ _ _ h => h) (Or.inl ⟨by rfl, fun w' hS' => by go_simp⟩) (by assumption) ?_
      simp only [Act.put, List.setIfInBounds_toArray, List.set_cons_zero, List.set_cons_succ]
      refine wpAnyH_take (i := 2) (oi := { dst := some 27, op := Op.move (Operand.tmp 5), type := 3, pos := _, after := _, guard := none }) (v := .int .i64 (k : Int)) rfl (by kernel_rfl) (by kernel_rfl) (by kernel_rfl) (fun _ _ _ h => h) (Or.inl ⟨by rfl, fun w' hS' => by go_simp⟩) (by assumption) ?_
      simp only [Act.put, List.setIfInBounds_toArray, List.set_cons_zero, List.set_cons_succ]
      refine wpAnyH_take (i := 7) (oi := { dst := some 32, op := Op.move (Operand.tmp 5), type := 3, pos := _, after := _, guard := none }) (v := .int .i64 (k : Int)) rfl (by kernel_rfl) (by kernel_rfl) (by kernel_rfl) (fun _ _ _ h => h) (Or.inl ⟨by rfl, fun w' hS' => by go_simp⟩) (by assumption) ?_
      simp only [Act.put, List.setIfInBounds_toArray, List.set_cons_zero, List.set_cons_succ]
      refine wpAnyH_take (i := 3) (oi := { dst := some 28, op := Op.indexAddr 31 (Operand.tmp 26) (Operand.tmp 27), type := 0, pos := _, after := _, guard := none }) (v := .pointer (some ⟨b, o + k * 12, none⟩)) rfl (by kernel_rfl) (by kernel_rfl) (by kernel_rfl) (fun _ _ _ h => h) (Or.inl ⟨by rfl, fun w' hS' => by go_simp⟩) (by assumption) ?_
      simp only [Act.put, List.setIfInBounds_toArray, List.set_cons_zero, List.set_cons_succ]
      refine wpAnyH_take (i := 8) (oi := { dst := some 33, op := Op.indexAddr 31 (Operand.tmp 31) (Operand.tmp 32), type := 0, pos := _, after := _, guard := none }) (v := .pointer (some ⟨b, o + k * 12, none⟩)) rfl (by kernel_rfl) (by kernel_rfl) (by kernel_rfl) (fun _ _ _ h => h) (Or.inl ⟨by rfl, fun w' hS' => by go_simp⟩) (by assumption) ?_
      simp only [Act.put, List.setIfInBounds_toArray, List.set_cons_zero, List.set_cons_succ]
      refine wpAnyH_take (i := 4) (oi := { dst := some 29, op := Op.fieldAddr 43 (Operand.tmp 28) 0, type := 0, pos := _, after := _, guard := none }) (v := .pointer (some ⟨b, o + k * 12, none⟩)) rfl (by kernel_rfl) (by kernel_rfl) (by kernel_rfl) (fun _ _ _ h => h) (Or.inl ⟨by rfl, fun w' hS' => by go_simp⟩) (by assumption) ?_
      simp only [Act.put, List.setIfInBounds_toArray, List.set_cons_zero, List.set_cons_succ]
      refine wpAnyH_take (i := 9) (oi := { dst := some 34, op := Op.fieldAddr 43 (Operand.tmp 33) 1, type := 0, pos := _, after := _, guard := none }) (v := .pointer (some ⟨b, o + k * 12 + 6, none⟩)) rfl (by kernel_rfl) (by kernel_rfl) (by kernel_rfl) (fun _ _ _ h => h) (Or.inl ⟨by rfl, fun w' hS' => by go_simp⟩) (by assumption) ?_
      simp only [Act.put, List.setIfInBounds_toArray, List.set_cons_zero, List.set_cons_succ]
      refine wpAnyH_take (i := 5) (oi := { dst := some 30, op := Op.load 41 (Operand.tmp 29), type := 41, pos := _, after := _, guard := none }) (v := .agg #[.int .i64 s.lo.kind, .int .u64 (s.lo.v.a : Int), .int .u64 (s.lo.v.b : Int), .int .u64 (s.lo.v.c : Int), .slice s.lo.A s.lo.v.pre.length s.lo.c, .slice s.lo.B s.lo.v.build.length s.lo.d]) rfl (by kernel_rfl) (by kernel_rfl) (by kernel_rfl) (fun _ _ _ h => h) (Or.inl ⟨by rfl, fun w' hS' => by obtain ⟨s0, s1, s2, s3, s4, s5, s6, s7, s8, s9, s10, s11⟩ := SpAt.cells hS'.2; go_simp⟩) (by assumption) ?_
      simp only [Act.put, List.setIfInBounds_toArray, List.set_cons_zero, List.set_cons_succ]
      refine wpAnyH_take (i := 10) (oi := { dst := some 35, op := Op.load 41 (Operand.tmp 34), type := 41, pos := _, after := _, guard := none }) (v := .agg #[.int .i64 s.hi.kind, .int .u64 (s.hi.v.a : Int), .int .u64 (s.hi.v.b : Int), .int .u64 (s.hi.v.c : Int), .slice s.hi.A s.hi.v.pre.length s.hi.c, .slice s.hi.B s.hi.v.build.length s.hi.d]) rfl (by kernel_rfl) (by kernel_rfl) (by kernel_rfl) (fun _ _ _ h => h) (Or.inl ⟨by rfl, fun w' hS' => by obtain ⟨s0, s1, s2, s3, s4, s5, s6, s7, s8, s9, s10, s11⟩ := SpAt.cells hS'.2; go_simp⟩) (by assumption) ?_
      simp only [Act.put, List.setIfInBounds_toArray, List.set_cons_zero, List.set_cons_succ]
      refine wpAnyH_ready (rs := [11]) (by kernel_rfl) (by simp) ?_
      refine AllReadyH.cons (o := { dst := some 36, op := Op.call { callee := Callee.value (Operand.func 107), args := #[Operand.tmp 30, Operand.tmp 35], argTypes := #[41, 41] }, type := 105, pos := _, after := _, guard := none }) rfl (fun K hK => ?_) AllReadyH.nil
      go_simp
      refine (rise_any s.lo s.hi _ HLs.out.lo HLs.out.hi).mono ?_
      rintro e wq1 ⟨rfl, hb⟩
      replace HX := Lib.hid (HX.out.kept hb)
      replace HZ := Lib.hid (HZ.out.kept hb HZ.out.1)
      replace HS := Lib.hid (HS.out.kept hb (Nat.lt_of_lt_of_le hbw HB.out.size))
      replace HLs := Lib.hid (HLs.out.kept hb)
      replace HB := Lib.hid (HB.out.trans (hb.mono HB.out.size))
      clear hb hHeld
      refine hK.out _ _ ⟨HZ.out, HS.out⟩ (fun hHeld => ?_)
      clear hK K
      try simp only [Act.put, List.setIfInBounds_toArray, List.set_cons_zero, List.set_cons_succ]
      refine wpAnyH_take (i := 12) (oi := { dst := some 37, op := Op.binOp BinOp.add 105 (Operand.tmp 25) (Operand.tmp 36) 105, type := 105, pos := _, after := _, guard := none }) (v := .float .f64 (fb (pk (l.map RSp.sp) (k + 1)))) rfl (by kernel_rfl) (by kernel_rfl) (by kernel_rfl) (fun _ _ _ h => h) (Or.inl ⟨by rfl, fun w' hS' => by have hf := run_float_arith (P := Tryz.prog) w' .add 105 .f64 _ _ _ HF2.out; go_simp⟩) (by assumption) ?_
      simp only [Act.put, List.setIfInBounds_toArray, List.set_cons_zero, List.set_cons_succ]
      refine wpAnyH_take (i := 13) (oi := { dst := some 6, op := Op.assign (Operand.tmp 37), type := 105, pos := _, after := _, guard := none }) (v := .float .f64 (fb (pk (l.map RSp.sp) (k + 1)))) rfl (by kernel_rfl) (by kernel_rfl) (by kernel_rfl) (fun _ _ _ h => h) (Or.inl ⟨by rfl, fun w' hS' => by go_simp⟩) (by assumption) ?_
      simp only [Act.put, List.setIfInBounds_toArray, List.set_cons_zero, List.set_cons_succ]
      refine wpAnyH_done (by kernel_rfl) ?_ _
      go_upto_region 8 with (fail)
      have hz8 : wq1.cell? ⟨w.heap.size, k, none⟩ = some (.complex .f64 0 0) := by rw [HX.out.2.2 k hlt]; unfold ends; rw [if_neg (Nat.lt_irrefl _)]
      have hf8 := HX.out.2.1 k
      go_upto_region 9 with (fail)
      have HX9 := Lib.hid (HX.out.next hlt)
      have HZ9 : Hid (At6B (wq1.setCell ⟨w.heap.size, k, none⟩ (.complex .f64 (fb (lk (l.map RSp.sp) k)) (fb (pk (l.map RSp.sp) (k + 1))))) (w.heap.size + 1) (.int .i64 z.kind) (.int .u64 (z.v.a : Int)) (.int .u64 (z.v.b : Int)) (.int .u64 (z.v.c : Int)) (.slice z.A z.v.pre.length z.c) (.slice z.B z.v.build.length z.d)) := HZ.out.beside (by omega) _
      have HB9 : Hid (Below w.heap.size w (wq1.setCell ⟨w.heap.size, k, none⟩ (.complex .f64 (fb (lk (l.map RSp.sp) k)) (fb (pk (l.map RSp.sp) (k + 1)))))) := HB.out.setCell (p := ⟨w.heap.size, k, none⟩) (Nat.le_refl _) _
      have hb9 : Below w.heap.size wq1 (wq1.setCell ⟨w.heap.size, k, none⟩ (.complex .f64 (fb (lk (l.map RSp.sp) k)) (fb (pk (l.map RSp.sp) (k + 1))))) := (Below.refl _ _).setCell (p := ⟨w.heap.size, k, none⟩) (Nat.le_refl _) _
      have HS9 : Hid (SpAt (wq1.setCell ⟨w.heap.size, k, none⟩ (.complex .f64 (fb (lk (l.map RSp.sp) k)) (fb (pk (l.map RSp.sp) (k + 1))))) b (o + k * 12) s) := fun i v hv => (hb9.cell (p := ⟨b, o + k * 12 + i, none⟩) hbw).trans (HS.out i v hv)
      clear hz8 hf8 hb9 HX HZ HS HB hHeld
      generalize wq1.setCell ⟨w.heap.size, k, none⟩ (.complex .f64 (fb (lk (l.map RSp.sp) k)) (fb (pk (l.map RSp.sp) (k + 1)))) = W8 at HX9 HZ9 HB9 HS9 ⊢
      obtain ⟨_, g2, z0, z1, z2, z3, z4, z5⟩ := HZ9.out
      obtain ⟨s0, s1, s2, s3, s4, s5, s6, s7, s8, s9, s10, s11⟩ := SpAt.cells HS9.out
      have HXE := Lib.hid (HX9.out.six (b := w.heap.size + 1) (by omega) (.int .i64 s.hi.kind) (.int .u64 (s.hi.v.a : Int)) (.int .u64 (s.hi.v.b : Int)) (.int .u64 (s.hi.v.c : Int)) (.slice s.hi.A s.hi.v.pre.length s.hi.c) (.slice s.hi.B s.hi.v.build.length s.hi.d))
      have HZE := Lib.hid (HZ9.out.set6 (.int .i64 s.hi.kind) (.int .u64 (s.hi.v.a : Int)) (.int .u64 (s.hi.v.b : Int)) (.int .u64 (s.hi.v.c : Int)) (.slice s.hi.A s.hi.v.pre.length s.hi.c) (.slice s.hi.B s.hi.v.build.length s.hi.d))
      have HBE := Lib.hid (below_set6 HB9.out (b := w.heap.size + 1) (by omega) (.int .i64 s.hi.kind) (.int .u64 (s.hi.v.a : Int)) (.int .u64 (s.hi.v.b : Int)) (.int .u64 (s.hi.v.c : Int)) (.slice s.hi.A s.hi.v.pre.length s.hi.c) (.slice s.hi.B s.hi.v.build.length s.hi.d))
      have HLE : Hid (Span.Lies (Span.set6 W8 (w.heap.size + 1) (.int .i64 s.hi.kind) (.int .u64 (s.hi.v.a : Int)) (.int .u64 (s.hi.v.b : Int)) (.int .u64 (s.hi.v.c : Int)) (.slice s.hi.A s.hi.v.pre.length s.hi.c) (.slice s.hi.B s.hi.v.build.length s.hi.d)) s.hi) := HLw.out.kept HBE.out
      go_upto_region 10 with (fail)
      change Code.wp _ _ _ _ (Span.set6 W8 (w.heap.size + 1) (.int .i64 s.hi.kind) (.int .u64 (s.hi.v.a : Int)) (.int .u64 (s.hi.v.b : Int)) (.int .u64 (s.hi.v.c : Int)) (.slice s.hi.A s.hi.v.pre.length s.hi.c) (.slice s.hi.B s.hi.v.build.length s.hi.d))
      generalize Span.set6 W8 (w.heap.size + 1) (.int .i64 s.hi.kind) (.int .u64 (s.hi.v.a : Int)) (.int .u64 (s.hi.v.b : Int)) (.int .u64 (s.hi.v.c : Int)) (.slice s.hi.A s.hi.v.pre.length s.hi.c) (.slice s.hi.B s.hi.v.build.length s.hi.d) = WE at HXE HZE HBE HLE ⊢
      clear z0 z1 z2 z3 z4 z5 s0 s1 s2 s3 s4 s5 s6 s7 s8 s9 s10 s11 g2 HX9 HZ9 HB9 HS9
      go_wp2
      go_step3
      rw [show ((k : Int) + 1) = ((k + 1 : Nat) : Int) from rfl]
      exact ⟨rfl, ⟨k + 1, s.hi, u1, _, _, _, _, _, _, _, _, _, _, _, _, _, _, _, _, _, _, _, _, _, _, _, _, _, _, _, _, _, _, _, _, _, _, _, _, _, _, _, _, _, _, _, _, by omega, HXE, HZE, HNx, HLE, HBE, rfl⟩, by simp [RkM, intOf]; omega⟩
    · obtain rfl : k = n := by omega
      go_wp2
      simp only [Exit.jump]
      go_ret
      exact ⟨rfl, HX.out, HB.out⟩
  · intro HP
    have HX0 : Hid (CxAt ((w.alloc (.cells (madeCells #[.complex .f64 0 0] n) 106)).alloc (.cells #[.int .i64 0, .int .u64 0, .int .u64 0, .int .u64 0, .slice none 0 0, .slice none 0 0] 41)) w.heap.size n (ends (l.map RSp.sp) 0)) := (CxAt.new w n (l.map RSp.sp) 106).kept ((Below.refl _ _).alloc (Nat.le_refl _) _)
    have HZ0 : Hid (At6B ((w.alloc (.cells (madeCells #[.complex .f64 0 0] n) 106)).alloc (.cells #[.int .i64 0, .int .u64 0, .int .u64 0, .int .u64 0, .slice none 0 0, .slice none 0 0] 41)) (w.heap.size + 1) (.int .i64 0) (.int .u64 0) (.int .u64 0) (.int .u64 0) (.slice none 0 0) (.slice none 0 0)) := by
      have h := At6B.new (w.alloc (.cells (madeCells #[.complex .f64 0 0] n) 106)) 41 (.int .i64 0) (.int .u64 0) (.int .u64 0) (.int .u64 0) (.slice none 0 0) (.slice none 0 0)
      rw [size_alloc] at h; exact h
    have HB0 : Hid (Below w.heap.size w ((w.alloc (.cells (madeCells #[.complex .f64 0 0] n) 106)).alloc (.cells #[.int .i64 0, .int .u64 0, .int .u64 0, .int .u64 0, .slice none 0 0, .slice none 0 0] 41))) := ((Below.refl _ _).alloc (Nat.le_refl _) _).alloc (by simp) _
    go_wp2
    go_step3
    rename_i hK
    exact hK _ _ (HP.out _ _ ⟨0, rlow, _, _, _, _, _, _, _, _, _, _, _, _, _, _, _, _, _, _, _, _, _, _, _, _, _, _, _, _, _, _, _, _, _, _, _, _, _, _, _, _, _, _, _, _, _, by omega, HX0, HZ0, rfl, Span.Lies.low _, HB0, rfl⟩)
end Go.Proofs.YtgfbflnhjpbceaaGreatDoor.Nrm

namespace Go.Proofs.YtgfbflnhjpbceaaGreatDoor.Nrm
open Go.RowKit Num Ident Semver Prec Span
open Range (Rng noRng goodR goodL fits RV RAt RgRow LtB wt wtL wtL_len wt_mem KeepS zeroRV wpList_append_rg)
theorem loQ_len (r : RCut) : (loQ r).length ≤ 1 := by
  unfold loQ
  split
  · exact Nat.le_refl _
  · split
    · exact Nat.le_refl _
    · exact Nat.zero_le _
theorem hiQ_len (r : RCut) : (hiQ r).length ≤ 1 := by
  unfold hiQ
  split
  · exact Nat.le_refl _
  · split
    · exact Nat.le_refl _
    · exact Nat.zero_le _
theorem neQ_next {l : List RSp} {k : Nat} (h : k < l.length) : neQ (l.take (k + 1)) = neQ (l.take k) ++ [(6, (l.getD k default).hi)] := by
  unfold neQ; rw [take_next l default k h, List.map_append]; rfl
set_option maxRecDepth 100000 in
set_option maxHeartbeats 6400000 in
theorem piece_any (A : Option Addr) (p c : Nat) (l : List RSp) (f g : Nat) (B : Nat) (w : World) (hr : SpRow w A (p + 1) l) (hp : p ≤ 100000) (hcp : p + 1 ≤ c) (ho : ∀ s ∈ l, OwnsS w B s) (hB : B ≤ w.heap.size) (hN : Span.Norm (l.map RSp.sp)) (hc : Chain (l.map RSp.sp))
    (hfg : (FloatKind.f64.format.order f g == some .eq) = isPoint (l.getD 0 default).lo.cut (l.getD 0 default).hi.cut) :
    Calls Tryz.prog 76 #[.slice A (p + 1) c, .complex .f64 f g] w (RngPost w (Strs w B) (pieceR (l.map RSp.sp))) := by
  have hln : l.length = p + 1 := hr.1
  obtain ⟨b, o, rfl, hbw, hcell⟩ := hr.2.2 (by omega)
  have HCell := Lib.hid hcell
  have HOwn := Lib.hid (allQ_own hln ho)
  have HGood := Lib.hid (allQ_good hln hN hc)
  have HParts := Lib.hid (allQ_parts hln)
  have HRow := Lib.hid hr
  have HPc : Hid (pieceR (l.map RSp.sp) = if isPoint (l.getD 0 default).lo.cut (l.getD 0 default).hi.cut = true then .mk 5 (l.getD 0 default).lo.v [] else few 9 (parts (l.map RSp.sp))) := by
    unfold Hid pieceR; rw [sp_at]; rfl
  have HFirst := Lib.hid (ho _ (getS_mem (show 0 < l.length by omega))).1
  have HFV : Hid (isPoint (l.getD 0 default).lo.cut (l.getD 0 default).hi.cut = true → goodV (l.getD 0 default).lo.v = true) := fun h => by
    have hc0 := hN.cnt _ (List.mem_map_of_mem (f := RSp.sp) (getS_mem (show 0 < l.length by omega)))
    exact ver_good ((cnt_iff _).1 hc0).1 (.inl ((isPoint_iff _ _).1 h).1)
  have HAllQ : Hid (allQ l p = loQ (l.getD 0 default).lo ++ hiQ (l.getD p default).hi ++ neQ (l.take p)) := rfl
  have HE0 : Hid (SpAt w b o (l.getD 0 default)) := fun i v hv => by have := hcell 0 (by omega) i v hv; rwa [Nat.zero_mul, Nat.add_zero] at this
  have HE9 : Hid (SpAt w b (o + p * 12) (l.getD p default)) := fun i v hv => hcell p (by omega) i v hv
  generalize l.getD 0 default = s0 at HPc HFirst HFV HAllQ HE0 hfg
  generalize l.getD p default = s9 at HAllQ HE9
  have HB : Hid (Below w.heap.size w (w.alloc (.cells #[.int .i64 0, .int .u64 0, .int .u64 0, .int .u64 0, .slice none 0 0, .slice none 0 0, .slice none 0 0] 28))) := (Below.refl _ _).alloc (Nat.le_refl _) _
  have HR : Hid (RAt (w.alloc (.cells #[.int .i64 0, .int .u64 0, .int .u64 0, .int .u64 0, .slice none 0 0, .slice none 0 0, .slice none 0 0] 28)) w.heap.size (zeroRV 0)) := RAt.new w _ (zeroRV 0)
  generalize hpp : pieceR (l.map RSp.sp) = pr at HPc
  have HPt := Lib.hid hfg
  clear hr hcell ho hN hc hpp hfg
  go_enter Tryz.func76, Tryz.ntmps76
  go_upto_region 1 with (fail)
  generalize (w.alloc (.cells #[.int .i64 0, .int .u64 0, .int .u64 0, .int .u64 0, .slice none 0 0, .slice none 0 0, .slice none 0 0] 28)) = W at HB HR ⊢
  go_cut [5, 6] (fun v5 v6 wx => ∃ p5 p6, v5 = .pointer (some ⟨p5, 0, none⟩) ∧ v6 = .pointer (some ⟨p6, 0, none⟩) ∧ PcAt w wx p5 p6 s0.lo s9.hi (.slice none 0 0) [])
  case first =>
    replace HB : Hid (Below w.heap.size w W.drew) := HB.out.drew
    replace HR : Hid (RAt W.drew w.heap.size (zeroRV 0)) := HR.out
    have hw1 : IntKind.i64.wrap (p : Int) = (p : Int) := by rw [IntKind.wrap_i64] <;> omega
    have hnn : ¬ (p : Int) + 1 ≤ (p : Int) := by omega
    have HS0 : Hid (SpAt W.drew b o s0) := fun i v hv => (HB.out.cell (p := ⟨b, o + i, none⟩) hbw).trans (HE0.out i v hv)
    have HS9 : Hid (SpAt W.drew b (o + p * 12) s9) := fun i v hv => (HB.out.cell (p := ⟨b, o + p * 12 + i, none⟩) hbw).trans (HE9.out i v hv)
    refine wp_region_held_drew (S := fun w' => SpAt w' b o s0 ∧ SpAt w' b (o + p * 12) s9) (by kernel_rfl) ⟨HS0.out, HS9.out⟩ (fun hHeld => ?_)
    generalize W.drew = W1 at HB HR HS0 HS9 hHeld ⊢
    refine wpAnyH_take (i := 0) (oi := { dst := some 10, op := Op.move (Operand.tmp 0), type := 31, pos := _, after := _, guard := none }) (v := .slice (some ⟨b, o, none⟩) (p + 1) c) rfl (by kernel_rfl) (by kernel_rfl) (by kernel_rfl) (fun _ _ _ h => h) (Or.inl ⟨by rfl, fun w' hS' => by go_simp⟩) (by assumption) ?_
    simp only [Act.put, List.setIfInBounds_toArray, List.set_cons_zero, List.set_cons_succ]
    refine wpAnyH_take (i := 1) (oi := { dst := some 11, op := Op.indexAddr 31 (Operand.tmp 10) (Operand.const (Value.int IntKind.i64 0)), type := 0, pos := _, after := _, guard := none }) (v := .pointer (some ⟨b, o, none⟩)) rfl (by kernel_rfl) (by kernel_rfl) (by kernel_rfl) (fun _ _ _ h => h) (Or.inl ⟨by rfl, fun w' hS' => by go_simp⟩) (by assumption) ?_
    simp only [Act.put, List.setIfInBounds_toArray, List.set_cons_zero, List.set_cons_succ]
    refine wpAnyH_take (i := 2) (oi := { dst := some 12, op := Op.fieldAddr 43 (Operand.tmp 11) 0, type := 0, pos := _, after := _, guard := none }) (v := .pointer (some ⟨b, o, none⟩)) rfl (by kernel_rfl) (by kernel_rfl) (by kernel_rfl) (fun _ _ _ h => h) (Or.inl ⟨by rfl, fun w' hS' => by go_simp⟩) (by assumption) ?_
    simp only [Act.put, List.setIfInBounds_toArray, List.set_cons_zero, List.set_cons_succ]
    refine wpAnyH_take (i := 3) (oi := { dst := some 13, op := Op.load 41 (Operand.tmp 12), type := 41, pos := _, after := _, guard := none }) (v := .agg #[.int .i64 s0.lo.kind, .int .u64 (s0.lo.v.a : Int), .int .u64 (s0.lo.v.b : Int), .int .u64 (s0.lo.v.c : Int), .slice s0.lo.A s0.lo.v.pre.length s0.lo.c, .slice s0.lo.B s0.lo.v.build.length s0.lo.d]) rfl (by kernel_rfl) (by kernel_rfl) (by kernel_rfl) (fun _ _ _ h => h) (Or.inl ⟨by rfl, fun w' hS' => by obtain ⟨s0, s1, s2, s3, s4, s5, s6, s7, s8, s9, s10, s11⟩ := SpAt.cells hS'.1; go_simp⟩) (by assumption) ?_
    simp only [Act.put, List.setIfInBounds_toArray, List.set_cons_zero, List.set_cons_succ]
    refine wpAnyH_take (i := 4) (oi := { dst := some 14, op := Op.move (Operand.tmp 0), type := 31, pos := _, after := _, guard := none }) (v := .slice (some ⟨b, o, none⟩) (p + 1) c) rfl (by kernel_rfl) (by kernel_rfl) (by kernel_rfl) (fun _ _ _ h => h) (Or.inl ⟨by rfl, fun w' hS' => by go_simp⟩) (by assumption) ?_
    simp only [Act.put, List.setIfInBounds_toArray, List.set_cons_zero, List.set_cons_succ]
    refine wpAnyH_take (i := 5) (oi := { dst := some 15, op := Op.move (Operand.tmp 0), type := 31, pos := _, after := _, guard := none }) (v := .slice (some ⟨b, o, none⟩) (p + 1) c) rfl (by kernel_rfl) (by kernel_rfl) (by kernel_rfl) (fun _ _ _ h => h) (Or.inl ⟨by rfl, fun w' hS' => by go_simp⟩) (by assumption) ?_
    simp only [Act.put, List.setIfInBounds_toArray, List.set_cons_zero, List.set_cons_succ]
    refine wpAnyH_take (i := 6) (oi := { dst := some 16, op := Op.call { callee := Callee.builtin Builtin.len, args := #[Operand.tmp 15], argTypes := #[31] }, type := 3, pos := _, after := _, guard := none }) (v := .int .i64 ((p + 1 : Nat) : Int)) rfl (by kernel_rfl) (by kernel_rfl) (by kernel_rfl) (fun _ _ _ h => h) (Or.inl ⟨by rfl, fun w' hS' => by go_simp⟩) (by assumption) ?_
    simp only [Act.put, List.setIfInBounds_toArray, List.set_cons_zero, List.set_cons_succ]
    refine wpAnyH_take (i := 7) (oi := { dst := some 17, op := Op.binOp BinOp.sub 3 (Operand.tmp 16) (Operand.const (Value.int IntKind.i64 1)) 3, type := 3, pos := _, after := _, guard := none }) (v := .int .i64 (p : Int)) rfl (by kernel_rfl) (by kernel_rfl) (by kernel_rfl) (fun _ _ _ h => h) (Or.inl ⟨by rfl, fun w' hS' => by go_simp⟩) (by assumption) ?_
    simp only [Act.put, List.setIfInBounds_toArray, List.set_cons_zero, List.set_cons_succ]
    refine wpAnyH_take (i := 8) (oi := { dst := some 18, op := Op.indexAddr 31 (Operand.tmp 14) (Operand.tmp 17), type := 0, pos := _, after := _, guard := none }) (v := .pointer (some ⟨b, o + p * 12, none⟩)) rfl (by kernel_rfl) (by kernel_rfl) (by kernel_rfl) (fun _ _ _ h => h) (Or.inl ⟨by rfl, fun w' hS' => by go_simp⟩) (by assumption) ?_
    simp only [Act.put, List.setIfInBounds_toArray, List.set_cons_zero, List.set_cons_succ]
    refine wpAnyH_take (i := 9) (oi := { dst := some 19, op := Op.fieldAddr 43 (Operand.tmp 18) 1, type := 0, pos := _, after := _, guard := none }) (v := .pointer (some ⟨b, o + p * 12 + 6, none⟩)) rfl (by kernel_rfl) (by kernel_rfl) (by kernel_rfl) (fun _ _ _ h => h) (Or.inl ⟨by rfl, fun w' hS' => by go_simp⟩) (by assumption) ?_
    simp only [Act.put, List.setIfInBounds_toArray, List.set_cons_zero, List.set_cons_succ]
    refine wpAnyH_take (i := 10) (oi := { dst := some 20, op := Op.load 41 (Operand.tmp 19), type := 41, pos := _, after := _, guard := none }) (v := .agg #[.int .i64 s9.hi.kind, .int .u64 (s9.hi.v.a : Int), .int .u64 (s9.hi.v.b : Int), .int .u64 (s9.hi.v.c : Int), .slice s9.hi.A s9.hi.v.pre.length s9.hi.c, .slice s9.hi.B s9.hi.v.build.length s9.hi.d]) rfl (by kernel_rfl) (by kernel_rfl) (by kernel_rfl) (fun _ _ _ h => h) (Or.inl ⟨by rfl, fun w' hS' => by obtain ⟨s0, s1, s2, s3, s4, s5, s6, s7, s8, s9, s10, s11⟩ := SpAt.cells hS'.2; go_simp⟩) (by assumption) ?_
    simp only [Act.put, List.setIfInBounds_toArray, List.set_cons_zero, List.set_cons_succ]
    refine wpAnyH_ready (rs := [11, 12]) (by kernel_rfl) (by simp) ?_
    refine AllReadyH.cons (o := { dst := some 5, op := Op.alloc 41, type := 0, pos := _, after := _, guard := none }) rfl (fun K hK => ?_) (AllReadyH.cons (o := { dst := some 6, op := Op.alloc 41, type := 0, pos := _, after := _, guard := none }) rfl (fun K hK => ?_) AllReadyH.nil)
    · go_simp
      have hb : Below W1.heap.size W1 (W1.alloc (.cells #[.int .i64 0, .int .u64 0, .int .u64 0, .int .u64 0, .slice none 0 0, .slice none 0 0] 41)) := (Below.refl _ _).alloc (Nat.le_refl _) _
      have hp5 : w.heap.size < W1.heap.size := HR.out.1
      have HB0 := HB.out.size
      replace HB : Hid (Below w.heap.size w (W1.alloc (.cells #[.int .i64 0, .int .u64 0, .int .u64 0, .int .u64 0, .slice none 0 0, .slice none 0 0] 41))) := HB.out.trans (hb.mono HB.out.size)
      replace HR := Lib.hid (HR.out.kept hb HR.out.1)
      replace HS0 := Lib.hid (HS0.out.kept hb (Nat.lt_of_lt_of_le hbw HB0))
      replace HS9 := Lib.hid (HS9.out.kept hb (Nat.lt_of_lt_of_le hbw HB0))
      clear HB0
      have H5 : Hid (At6B (W1.alloc (.cells #[.int .i64 0, .int .u64 0, .int .u64 0, .int .u64 0, .slice none 0 0, .slice none 0 0] 41)) W1.heap.size (.int .i64 0) (.int .u64 0) (.int .u64 0) (.int .u64 0) (.slice none 0 0) (.slice none 0 0)) := At6B.new _ _ _ _ _ _ _ _
      clear hb hHeld
      generalize (W1.alloc (.cells #[.int .i64 0, .int .u64 0, .int .u64 0, .int .u64 0, .slice none 0 0, .slice none 0 0] 41)) = wq1 at HB HR HS0 HS9 H5 ⊢
      refine hK.out _ _ ⟨HS0.out, HS9.out⟩ (fun hHeld => ?_)
      clear hK K
      try simp only [Act.put, List.setIfInBounds_toArray, List.set_cons_zero, List.set_cons_succ]
      refine wpAnyH_ready (rs := [12]) (by kernel_rfl) (by simp) ?_
      refine AllReadyH.cons (o := { dst := some 6, op := Op.alloc 41, type := 0, pos := _, after := _, guard := none }) rfl (fun K hK => ?_) AllReadyH.nil
      go_simp
      have hb : Below wq1.heap.size wq1 (wq1.alloc (.cells #[.int .i64 0, .int .u64 0, .int .u64 0, .int .u64 0, .slice none 0 0, .slice none 0 0] 41)) := (Below.refl _ _).alloc (Nat.le_refl _) _
      have hne : W1.heap.size ≠ wq1.heap.size := Nat.ne_of_lt H5.out.1
      have hp6 : w.heap.size < wq1.heap.size := HR.out.1
      have HB0 := HB.out.size
      replace HB : Hid (Below w.heap.size w (wq1.alloc (.cells #[.int .i64 0, .int .u64 0, .int .u64 0, .int .u64 0, .slice none 0 0, .slice none 0 0] 41))) := HB.out.trans (hb.mono HB.out.size)
      replace HR := Lib.hid (HR.out.kept hb HR.out.1)
      replace HS0 := Lib.hid (HS0.out.kept hb (Nat.lt_of_lt_of_le hbw HB0))
      replace HS9 := Lib.hid (HS9.out.kept hb (Nat.lt_of_lt_of_le hbw HB0))
      replace H5 := Lib.hid (H5.out.kept hb H5.out.1)
      clear HB0
      have H6 : Hid (At6B (wq1.alloc (.cells #[.int .i64 0, .int .u64 0, .int .u64 0, .int .u64 0, .slice none 0 0, .slice none 0 0] 41)) wq1.heap.size (.int .i64 0) (.int .u64 0) (.int .u64 0) (.int .u64 0) (.slice none 0 0) (.slice none 0 0)) := At6B.new _ _ _ _ _ _ _ _
      clear hb hHeld
      generalize (wq1.alloc (.cells #[.int .i64 0, .int .u64 0, .int .u64 0, .int .u64 0, .slice none 0 0, .slice none 0 0] 41)) = wq2 at HB HR HS0 HS9 H5 H6 ⊢
      refine hK.out _ _ ⟨HS0.out, HS9.out⟩ (fun hHeld => ?_)
      clear hK K
      try simp only [Act.put, List.setIfInBounds_toArray, List.set_cons_zero, List.set_cons_succ]
      refine wpAnyH_ready (rs := [13]) (by kernel_rfl) (by simp) ?_
      refine AllReadyH.cons (o := { dst := none, op := Op.store 41 (Operand.tmp 5) (Operand.tmp 13), type := 0, pos := _, after := _, guard := none }) rfl (fun K hK => ?_) AllReadyH.nil
      obtain ⟨z1, z2, z3, z4, z5, z6, z7, z8⟩ := H5.out
      go_simp
      have hb : Below (w.heap.size + 1) wq2 (Span.set6 wq2 (W1.heap.size) (.int .i64 s0.lo.kind) (.int .u64 (s0.lo.v.a : Int)) (.int .u64 (s0.lo.v.b : Int)) (.int .u64 (s0.lo.v.c : Int)) (.slice s0.lo.A s0.lo.v.pre.length s0.lo.c) (.slice s0.lo.B s0.lo.v.build.length s0.lo.d)) := below_set6 (Below.refl _ _) (by omega) (.int .i64 s0.lo.kind) (.int .u64 (s0.lo.v.a : Int)) (.int .u64 (s0.lo.v.b : Int)) (.int .u64 (s0.lo.v.c : Int)) (.slice s0.lo.A s0.lo.v.pre.length s0.lo.c) (.slice s0.lo.B s0.lo.v.build.length s0.lo.d)
      replace HB : Hid (Below w.heap.size w (Span.set6 wq2 (W1.heap.size) (.int .i64 s0.lo.kind) (.int .u64 (s0.lo.v.a : Int)) (.int .u64 (s0.lo.v.b : Int)) (.int .u64 (s0.lo.v.c : Int)) (.slice s0.lo.A s0.lo.v.pre.length s0.lo.c) (.slice s0.lo.B s0.lo.v.build.length s0.lo.d))) := below_set6 HB.out (by omega) (.int .i64 s0.lo.kind) (.int .u64 (s0.lo.v.a : Int)) (.int .u64 (s0.lo.v.b : Int)) (.int .u64 (s0.lo.v.c : Int)) (.slice s0.lo.A s0.lo.v.pre.length s0.lo.c) (.slice s0.lo.B s0.lo.v.build.length s0.lo.d)
      replace HR := Lib.hid (HR.out.kept hb (by omega))
      replace HS0 : Hid (SpAt (Span.set6 wq2 (W1.heap.size) (.int .i64 s0.lo.kind) (.int .u64 (s0.lo.v.a : Int)) (.int .u64 (s0.lo.v.b : Int)) (.int .u64 (s0.lo.v.c : Int)) (.slice s0.lo.A s0.lo.v.pre.length s0.lo.c) (.slice s0.lo.B s0.lo.v.build.length s0.lo.d)) b o s0) := fun i v hv => (hb.cell (p := ⟨b, o + i, none⟩) (by show b < _; omega)).trans (HS0.out i v hv)
      replace HS9 : Hid (SpAt (Span.set6 wq2 (W1.heap.size) (.int .i64 s0.lo.kind) (.int .u64 (s0.lo.v.a : Int)) (.int .u64 (s0.lo.v.b : Int)) (.int .u64 (s0.lo.v.c : Int)) (.slice s0.lo.A s0.lo.v.pre.length s0.lo.c) (.slice s0.lo.B s0.lo.v.build.length s0.lo.d)) b (o + p * 12) s9) := fun i v hv => (hb.cell (p := ⟨b, o + p * 12 + i, none⟩) (by show b < _; omega)).trans (HS9.out i v hv)
      replace H5 := Lib.hid (H5.out.set6 (.int .i64 s0.lo.kind) (.int .u64 (s0.lo.v.a : Int)) (.int .u64 (s0.lo.v.b : Int)) (.int .u64 (s0.lo.v.c : Int)) (.slice s0.lo.A s0.lo.v.pre.length s0.lo.c) (.slice s0.lo.B s0.lo.v.build.length s0.lo.d))
      replace H6 := Lib.hid (six_ne H6.out hne.symm (.int .i64 s0.lo.kind) (.int .u64 (s0.lo.v.a : Int)) (.int .u64 (s0.lo.v.b : Int)) (.int .u64 (s0.lo.v.c : Int)) (.slice s0.lo.A s0.lo.v.pre.length s0.lo.c) (.slice s0.lo.B s0.lo.v.build.length s0.lo.d))
      clear hb hHeld z1 z2 z3 z4 z5 z6 z7 z8
      change K _ (Span.set6 wq2 (W1.heap.size) (.int .i64 s0.lo.kind) (.int .u64 (s0.lo.v.a : Int)) (.int .u64 (s0.lo.v.b : Int)) (.int .u64 (s0.lo.v.c : Int)) (.slice s0.lo.A s0.lo.v.pre.length s0.lo.c) (.slice s0.lo.B s0.lo.v.build.length s0.lo.d))
      generalize Span.set6 wq2 (W1.heap.size) (.int .i64 s0.lo.kind) (.int .u64 (s0.lo.v.a : Int)) (.int .u64 (s0.lo.v.b : Int)) (.int .u64 (s0.lo.v.c : Int)) (.slice s0.lo.A s0.lo.v.pre.length s0.lo.c) (.slice s0.lo.B s0.lo.v.build.length s0.lo.d) = wq3 at HB HR HS0 HS9 H5 H6 ⊢
      refine hK.out _ _ ⟨HS0.out, HS9.out⟩ (fun hHeld => ?_)
      clear hK K
      try simp only [Act.put, List.setIfInBounds_toArray, List.set_cons_zero, List.set_cons_succ]
      refine wpAnyH_ready (rs := [14]) (by kernel_rfl) (by simp) ?_
      refine AllReadyH.cons (o := { dst := none, op := Op.store 41 (Operand.tmp 6) (Operand.tmp 20), type := 0, pos := _, after := _, guard := none }) rfl (fun K hK => ?_) AllReadyH.nil
      obtain ⟨z1, z2, z3, z4, z5, z6, z7, z8⟩ := H6.out
      go_simp
      have hb : Below (w.heap.size + 1) wq3 (Span.set6 wq3 (wq1.heap.size) (.int .i64 s9.hi.kind) (.int .u64 (s9.hi.v.a : Int)) (.int .u64 (s9.hi.v.b : Int)) (.int .u64 (s9.hi.v.c : Int)) (.slice s9.hi.A s9.hi.v.pre.length s9.hi.c) (.slice s9.hi.B s9.hi.v.build.length s9.hi.d)) := below_set6 (Below.refl _ _) (by omega) (.int .i64 s9.hi.kind) (.int .u64 (s9.hi.v.a : Int)) (.int .u64 (s9.hi.v.b : Int)) (.int .u64 (s9.hi.v.c : Int)) (.slice s9.hi.A s9.hi.v.pre.length s9.hi.c) (.slice s9.hi.B s9.hi.v.build.length s9.hi.d)
      replace HB : Hid (Below w.heap.size w (Span.set6 wq3 (wq1.heap.size) (.int .i64 s9.hi.kind) (.int .u64 (s9.hi.v.a : Int)) (.int .u64 (s9.hi.v.b : Int)) (.int .u64 (s9.hi.v.c : Int)) (.slice s9.hi.A s9.hi.v.pre.length s9.hi.c) (.slice s9.hi.B s9.hi.v.build.length s9.hi.d))) := below_set6 HB.out (by omega) (.int .i64 s9.hi.kind) (.int .u64 (s9.hi.v.a : Int)) (.int .u64 (s9.hi.v.b : Int)) (.int .u64 (s9.hi.v.c : Int)) (.slice s9.hi.A s9.hi.v.pre.length s9.hi.c) (.slice s9.hi.B s9.hi.v.build.length s9.hi.d)
      replace HR := Lib.hid (HR.out.kept hb (by omega))
      replace HS0 : Hid (SpAt (Span.set6 wq3 (wq1.heap.size) (.int .i64 s9.hi.kind) (.int .u64 (s9.hi.v.a : Int)) (.int .u64 (s9.hi.v.b : Int)) (.int .u64 (s9.hi.v.c : Int)) (.slice s9.hi.A s9.hi.v.pre.length s9.hi.c) (.slice s9.hi.B s9.hi.v.build.length s9.hi.d)) b o s0) := fun i v hv => (hb.cell (p := ⟨b, o + i, none⟩) (by show b < _; omega)).trans (HS0.out i v hv)
      replace HS9 : Hid (SpAt (Span.set6 wq3 (wq1.heap.size) (.int .i64 s9.hi.kind) (.int .u64 (s9.hi.v.a : Int)) (.int .u64 (s9.hi.v.b : Int)) (.int .u64 (s9.hi.v.c : Int)) (.slice s9.hi.A s9.hi.v.pre.length s9.hi.c) (.slice s9.hi.B s9.hi.v.build.length s9.hi.d)) b (o + p * 12) s9) := fun i v hv => (hb.cell (p := ⟨b, o + p * 12 + i, none⟩) (by show b < _; omega)).trans (HS9.out i v hv)
      replace H6 := Lib.hid (H6.out.set6 (.int .i64 s9.hi.kind) (.int .u64 (s9.hi.v.a : Int)) (.int .u64 (s9.hi.v.b : Int)) (.int .u64 (s9.hi.v.c : Int)) (.slice s9.hi.A s9.hi.v.pre.length s9.hi.c) (.slice s9.hi.B s9.hi.v.build.length s9.hi.d))
      replace H5 := Lib.hid (six_ne H5.out hne (.int .i64 s9.hi.kind) (.int .u64 (s9.hi.v.a : Int)) (.int .u64 (s9.hi.v.b : Int)) (.int .u64 (s9.hi.v.c : Int)) (.slice s9.hi.A s9.hi.v.pre.length s9.hi.c) (.slice s9.hi.B s9.hi.v.build.length s9.hi.d))
      clear hb hHeld z1 z2 z3 z4 z5 z6 z7 z8
      change K _ (Span.set6 wq3 (wq1.heap.size) (.int .i64 s9.hi.kind) (.int .u64 (s9.hi.v.a : Int)) (.int .u64 (s9.hi.v.b : Int)) (.int .u64 (s9.hi.v.c : Int)) (.slice s9.hi.A s9.hi.v.pre.length s9.hi.c) (.slice s9.hi.B s9.hi.v.build.length s9.hi.d))
      generalize Span.set6 wq3 (wq1.heap.size) (.int .i64 s9.hi.kind) (.int .u64 (s9.hi.v.a : Int)) (.int .u64 (s9.hi.v.b : Int)) (.int .u64 (s9.hi.v.c : Int)) (.slice s9.hi.A s9.hi.v.pre.length s9.hi.c) (.slice s9.hi.B s9.hi.v.build.length s9.hi.d) = wq4 at HB HR HS0 HS9 H5 H6 ⊢
      refine hK.out _ _ ⟨HS0.out, HS9.out⟩ (fun hHeld => ?_)
      clear hK K
      try simp only [Act.put, List.setIfInBounds_toArray, List.set_cons_zero, List.set_cons_succ]
      refine wpAnyH_done (by kernel_rfl) ?_ _
      go_wp2
      go_meet
      exact ⟨_, _, rfl, rfl, PcAt.start H5.out H6.out HR.out HB.out⟩
    · go_simp
      have hb : Below W1.heap.size W1 (W1.alloc (.cells #[.int .i64 0, .int .u64 0, .int .u64 0, .int .u64 0, .slice none 0 0, .slice none 0 0] 41)) := (Below.refl _ _).alloc (Nat.le_refl _) _
      have hp6 : w.heap.size < W1.heap.size := HR.out.1
      have HB0 := HB.out.size
      replace HB : Hid (Below w.heap.size w (W1.alloc (.cells #[.int .i64 0, .int .u64 0, .int .u64 0, .int .u64 0, .slice none 0 0, .slice none 0 0] 41))) := HB.out.trans (hb.mono HB.out.size)
      replace HR := Lib.hid (HR.out.kept hb HR.out.1)
      replace HS0 := Lib.hid (HS0.out.kept hb (Nat.lt_of_lt_of_le hbw HB0))
      replace HS9 := Lib.hid (HS9.out.kept hb (Nat.lt_of_lt_of_le hbw HB0))
      clear HB0
      have H6 : Hid (At6B (W1.alloc (.cells #[.int .i64 0, .int .u64 0, .int .u64 0, .int .u64 0, .slice none 0 0, .slice none 0 0] 41)) W1.heap.size (.int .i64 0) (.int .u64 0) (.int .u64 0) (.int .u64 0) (.slice none 0 0) (.slice none 0 0)) := At6B.new _ _ _ _ _ _ _ _
      clear hb hHeld
      generalize (W1.alloc (.cells #[.int .i64 0, .int .u64 0, .int .u64 0, .int .u64 0, .slice none 0 0, .slice none 0 0] 41)) = wq5 at HB HR HS0 HS9 H6 ⊢
      refine hK.out _ _ ⟨HS0.out, HS9.out⟩ (fun hHeld => ?_)
      clear hK K
      try simp only [Act.put, List.setIfInBounds_toArray, List.set_cons_zero, List.set_cons_succ]
      refine wpAnyH_ready (rs := [11]) (by kernel_rfl) (by simp) ?_
      refine AllReadyH.cons (o := { dst := some 5, op := Op.alloc 41, type := 0, pos := _, after := _, guard := none }) rfl (fun K hK => ?_) AllReadyH.nil
      go_simp
      have hb : Below wq5.heap.size wq5 (wq5.alloc (.cells #[.int .i64 0, .int .u64 0, .int .u64 0, .int .u64 0, .slice none 0 0, .slice none 0 0] 41)) := (Below.refl _ _).alloc (Nat.le_refl _) _
      have hne : wq5.heap.size ≠ W1.heap.size := Nat.ne_of_gt H6.out.1
      have hp5 : w.heap.size < wq5.heap.size := HR.out.1
      have HB0 := HB.out.size
      replace HB : Hid (Below w.heap.size w (wq5.alloc (.cells #[.int .i64 0, .int .u64 0, .int .u64 0, .int .u64 0, .slice none 0 0, .slice none 0 0] 41))) := HB.out.trans (hb.mono HB.out.size)
      replace HR := Lib.hid (HR.out.kept hb HR.out.1)
      replace HS0 := Lib.hid (HS0.out.kept hb (Nat.lt_of_lt_of_le hbw HB0))
      replace HS9 := Lib.hid (HS9.out.kept hb (Nat.lt_of_lt_of_le hbw HB0))
      replace H6 := Lib.hid (H6.out.kept hb H6.out.1)
      clear HB0
      have H5 : Hid (At6B (wq5.alloc (.cells #[.int .i64 0, .int .u64 0, .int .u64 0, .int .u64 0, .slice none 0 0, .slice none 0 0] 41)) wq5.heap.size (.int .i64 0) (.int .u64 0) (.int .u64 0) (.int .u64 0) (.slice none 0 0) (.slice none 0 0)) := At6B.new _ _ _ _ _ _ _ _
      clear hb hHeld
      generalize (wq5.alloc (.cells #[.int .i64 0, .int .u64 0, .int .u64 0, .int .u64 0, .slice none 0 0, .slice none 0 0] 41)) = wq6 at HB HR HS0 HS9 H6 H5 ⊢
      refine hK.out _ _ ⟨HS0.out, HS9.out⟩ (fun hHeld => ?_)
      clear hK K
      try simp only [Act.put, List.setIfInBounds_toArray, List.set_cons_zero, List.set_cons_succ]
      refine wpAnyH_ready (rs := [13]) (by kernel_rfl) (by simp) ?_
      refine AllReadyH.cons (o := { dst := none, op := Op.store 41 (Operand.tmp 5) (Operand.tmp 13), type := 0, pos := _, after := _, guard := none }) rfl (fun K hK => ?_) AllReadyH.nil
      obtain ⟨z1, z2, z3, z4, z5, z6, z7, z8⟩ := H5.out
      go_simp
      have hb : Below (w.heap.size + 1) wq6 (Span.set6 wq6 (wq5.heap.size) (.int .i64 s0.lo.kind) (.int .u64 (s0.lo.v.a : Int)) (.int .u64 (s0.lo.v.b : Int)) (.int .u64 (s0.lo.v.c : Int)) (.slice s0.lo.A s0.lo.v.pre.length s0.lo.c) (.slice s0.lo.B s0.lo.v.build.length s0.lo.d)) := below_set6 (Below.refl _ _) (by omega) (.int .i64 s0.lo.kind) (.int .u64 (s0.lo.v.a : Int)) (.int .u64 (s0.lo.v.b : Int)) (.int .u64 (s0.lo.v.c : Int)) (.slice s0.lo.A s0.lo.v.pre.length s0.lo.c) (.slice s0.lo.B s0.lo.v.build.length s0.lo.d)
      replace HB : Hid (Below w.heap.size w (Span.set6 wq6 (wq5.heap.size) (.int .i64 s0.lo.kind) (.int .u64 (s0.lo.v.a : Int)) (.int .u64 (s0.lo.v.b : Int)) (.int .u64 (s0.lo.v.c : Int)) (.slice s0.lo.A s0.lo.v.pre.length s0.lo.c) (.slice s0.lo.B s0.lo.v.build.length s0.lo.d))) := below_set6 HB.out (by omega) (.int .i64 s0.lo.kind) (.int .u64 (s0.lo.v.a : Int)) (.int .u64 (s0.lo.v.b : Int)) (.int .u64 (s0.lo.v.c : Int)) (.slice s0.lo.A s0.lo.v.pre.length s0.lo.c) (.slice s0.lo.B s0.lo.v.build.length s0.lo.d)
      replace HR := Lib.hid (HR.out.kept hb (by omega))
      replace HS0 : Hid (SpAt (Span.set6 wq6 (wq5.heap.size) (.int .i64 s0.lo.kind) (.int .u64 (s0.lo.v.a : Int)) (.int .u64 (s0.lo.v.b : Int)) (.int .u64 (s0.lo.v.c : Int)) (.slice s0.lo.A s0.lo.v.pre.length s0.lo.c) (.slice s0.lo.B s0.lo.v.build.length s0.lo.d)) b o s0) := fun i v hv => (hb.cell (p := ⟨b, o + i, none⟩) (by show b < _; omega)).trans (HS0.out i v hv)
      replace HS9 : Hid (SpAt (Span.set6 wq6 (wq5.heap.size) (.int .i64 s0.lo.kind) (.int .u64 (s0.lo.v.a : Int)) (.int .u64 (s0.lo.v.b : Int)) (.int .u64 (s0.lo.v.c : Int)) (.slice s0.lo.A s0.lo.v.pre.length s0.lo.c) (.slice s0.lo.B s0.lo.v.build.length s0.lo.d)) b (o + p * 12) s9) := fun i v hv => (hb.cell (p := ⟨b, o + p * 12 + i, none⟩) (by show b < _; omega)).trans (HS9.out i v hv)
      replace H5 := Lib.hid (H5.out.set6 (.int .i64 s0.lo.kind) (.int .u64 (s0.lo.v.a : Int)) (.int .u64 (s0.lo.v.b : Int)) (.int .u64 (s0.lo.v.c : Int)) (.slice s0.lo.A s0.lo.v.pre.length s0.lo.c) (.slice s0.lo.B s0.lo.v.build.length s0.lo.d))
      replace H6 := Lib.hid (six_ne H6.out hne.symm (.int .i64 s0.lo.kind) (.int .u64 (s0.lo.v.a : Int)) (.int .u64 (s0.lo.v.b : Int)) (.int .u64 (s0.lo.v.c : Int)) (.slice s0.lo.A s0.lo.v.pre.length s0.lo.c) (.slice s0.lo.B s0.lo.v.build.length s0.lo.d))
      clear hb hHeld z1 z2 z3 z4 z5 z6 z7 z8
      change K _ (Span.set6 wq6 (wq5.heap.size) (.int .i64 s0.lo.kind) (.int .u64 (s0.lo.v.a : Int)) (.int .u64 (s0.lo.v.b : Int)) (.int .u64 (s0.lo.v.c : Int)) (.slice s0.lo.A s0.lo.v.pre.length s0.lo.c) (.slice s0.lo.B s0.lo.v.build.length s0.lo.d))
      generalize Span.set6 wq6 (wq5.heap.size) (.int .i64 s0.lo.kind) (.int .u64 (s0.lo.v.a : Int)) (.int .u64 (s0.lo.v.b : Int)) (.int .u64 (s0.lo.v.c : Int)) (.slice s0.lo.A s0.lo.v.pre.length s0.lo.c) (.slice s0.lo.B s0.lo.v.build.length s0.lo.d) = wq7 at HB HR HS0 HS9 H5 H6 ⊢
      refine hK.out _ _ ⟨HS0.out, HS9.out⟩ (fun hHeld => ?_)
      clear hK K
      try simp only [Act.put, List.setIfInBounds_toArray, List.set_cons_zero, List.set_cons_succ]
      refine wpAnyH_ready (rs := [14]) (by kernel_rfl) (by simp) ?_
      refine AllReadyH.cons (o := { dst := none, op := Op.store 41 (Operand.tmp 6) (Operand.tmp 20), type := 0, pos := _, after := _, guard := none }) rfl (fun K hK => ?_) AllReadyH.nil
      obtain ⟨z1, z2, z3, z4, z5, z6, z7, z8⟩ := H6.out
      go_simp
      have hb : Below (w.heap.size + 1) wq7 (Span.set6 wq7 (W1.heap.size) (.int .i64 s9.hi.kind) (.int .u64 (s9.hi.v.a : Int)) (.int .u64 (s9.hi.v.b : Int)) (.int .u64 (s9.hi.v.c : Int)) (.slice s9.hi.A s9.hi.v.pre.length s9.hi.c) (.slice s9.hi.B s9.hi.v.build.length s9.hi.d)) := below_set6 (Below.refl _ _) (by omega) (.int .i64 s9.hi.kind) (.int .u64 (s9.hi.v.a : Int)) (.int .u64 (s9.hi.v.b : Int)) (.int .u64 (s9.hi.v.c : Int)) (.slice s9.hi.A s9.hi.v.pre.length s9.hi.c) (.slice s9.hi.B s9.hi.v.build.length s9.hi.d)
      replace HB : Hid (Below w.heap.size w (Span.set6 wq7 (W1.heap.size) (.int .i64 s9.hi.kind) (.int .u64 (s9.hi.v.a : Int)) (.int .u64 (s9.hi.v.b : Int)) (.int .u64 (s9.hi.v.c : Int)) (.slice s9.hi.A s9.hi.v.pre.length s9.hi.c) (.slice s9.hi.B s9.hi.v.build.length s9.hi.d))) := below_set6 HB.out (by omega) (.int .i64 s9.hi.kind) (.int .u64 (s9.hi.v.a : Int)) (.int .u64 (s9.hi.v.b : Int)) (.int .u64 (s9.hi.v.c : Int)) (.slice s9.hi.A s9.hi.v.pre.length s9.hi.c) (.slice s9.hi.B s9.hi.v.build.length s9.hi.d)
      replace HR := Lib.hid (HR.out.kept hb (by omega))
      replace HS0 : Hid (SpAt (Span.set6 wq7 (W1.heap.size) (.int .i64 s9.hi.kind) (.int .u64 (s9.hi.v.a : Int)) (.int .u64 (s9.hi.v.b : Int)) (.int .u64 (s9.hi.v.c : Int)) (.slice s9.hi.A s9.hi.v.pre.length s9.hi.c) (.slice s9.hi.B s9.hi.v.build.length s9.hi.d)) b o s0) := fun i v hv => (hb.cell (p := ⟨b, o + i, none⟩) (by show b < _; omega)).trans (HS0.out i v hv)
      replace HS9 : Hid (SpAt (Span.set6 wq7 (W1.heap.size) (.int .i64 s9.hi.kind) (.int .u64 (s9.hi.v.a : Int)) (.int .u64 (s9.hi.v.b : Int)) (.int .u64 (s9.hi.v.c : Int)) (.slice s9.hi.A s9.hi.v.pre.length s9.hi.c) (.slice s9.hi.B s9.hi.v.build.length s9.hi.d)) b (o + p * 12) s9) := fun i v hv => (hb.cell (p := ⟨b, o + p * 12 + i, none⟩) (by show b < _; omega)).trans (HS9.out i v hv)
      replace H6 := Lib.hid (H6.out.set6 (.int .i64 s9.hi.kind) (.int .u64 (s9.hi.v.a : Int)) (.int .u64 (s9.hi.v.b : Int)) (.int .u64 (s9.hi.v.c : Int)) (.slice s9.hi.A s9.hi.v.pre.length s9.hi.c) (.slice s9.hi.B s9.hi.v.build.length s9.hi.d))
      replace H5 := Lib.hid (six_ne H5.out hne (.int .i64 s9.hi.kind) (.int .u64 (s9.hi.v.a : Int)) (.int .u64 (s9.hi.v.b : Int)) (.int .u64 (s9.hi.v.c : Int)) (.slice s9.hi.A s9.hi.v.pre.length s9.hi.c) (.slice s9.hi.B s9.hi.v.build.length s9.hi.d))
      clear hb hHeld z1 z2 z3 z4 z5 z6 z7 z8
      change K _ (Span.set6 wq7 (W1.heap.size) (.int .i64 s9.hi.kind) (.int .u64 (s9.hi.v.a : Int)) (.int .u64 (s9.hi.v.b : Int)) (.int .u64 (s9.hi.v.c : Int)) (.slice s9.hi.A s9.hi.v.pre.length s9.hi.c) (.slice s9.hi.B s9.hi.v.build.length s9.hi.d))
      generalize Span.set6 wq7 (W1.heap.size) (.int .i64 s9.hi.kind) (.int .u64 (s9.hi.v.a : Int)) (.int .u64 (s9.hi.v.b : Int)) (.int .u64 (s9.hi.v.c : Int)) (.slice s9.hi.A s9.hi.v.pre.length s9.hi.c) (.slice s9.hi.B s9.hi.v.build.length s9.hi.d) = wq8 at HB HR HS0 HS9 H5 H6 ⊢
      refine hK.out _ _ ⟨HS0.out, HS9.out⟩ (fun hHeld => ?_)
      clear hK K
      try simp only [Act.put, List.setIfInBounds_toArray, List.set_cons_zero, List.set_cons_succ]
      refine wpAnyH_done (by kernel_rfl) ?_ _
      go_wp2
      go_meet
      exact ⟨_, _, rfl, rfl, PcAt.start H5.out H6.out HR.out HB.out⟩
  case rest =>
  obtain ⟨p5, p6, rfl, rfl, hpc⟩ := hcut
  have HP := Lib.hid hpc
  clear hpc HB HR
  cases hpt : isPoint s0.lo.cut s0.hi.cut with
  | true =>
    obtain ⟨_, _, a0, a1, a2, a3, a4, a5⟩ := HP.out.a5
    have q1 : (FloatKind.f64.format.order f g == some .eq) = true := HPt.out.trans hpt
    obtain rfl : pr = .mk 5 s0.lo.v [] := by rw [HPc.out, if_pos hpt]
    have HK9 := Lib.hid (Range.setR_at (x := (verRV 5 s0.lo)) HP.out.res)
    have HB9 : Hid (Below w.heap.size w (Range.setR wc w.heap.size (verRV 5 s0.lo))) := HP.out.bel.trans (Range.setR_below w.heap.size (Nat.le_refl _) (verRV 5 s0.lo))
    have HS9 : Hid (Range.Lies (Range.setR wc w.heap.size (verRV 5 s0.lo)) (Strs w B) (.mk 5 s0.lo.v []) (verRV 5 s0.lo)) := lies_ver HFirst.out HB9.out (HFV.out hpt) 5
    obtain ⟨_, _, r0, r1, r2, r3, r4, r5, r6⟩ := HP.out.res
    have hfz := HP.out.res.2.1
    clear hpt HPc
    go_wp2
    change bodyPost _ _ _ _ _ (Range.setR wc w.heap.size (verRV 5 s0.lo))
    generalize Range.setR wc w.heap.size (verRV 5 s0.lo) = W9 at HK9 HB9 HS9 ⊢
    obtain ⟨_, _, z0, z1, z2, z3, z4, z5, z6⟩ := HK9.out
    exact bodyPost_ret (v := .agg #[.int .i64 (verRV 5 s0.lo).kind, .int .u64 ((verRV 5 s0.lo).v.a : Int), .int .u64 ((verRV 5 s0.lo).v.b : Int), .int .u64 ((verRV 5 s0.lo).v.c : Int), .slice (verRV 5 s0.lo).A (verRV 5 s0.lo).v.pre.length (verRV 5 s0.lo).c, .slice (verRV 5 s0.lo).B (verRV 5 s0.lo).v.build.length (verRV 5 s0.lo).d, .slice (verRV 5 s0.lo).L (verRV 5 s0.lo).n (verRV 5 s0.lo).e]) (by simp [results, Tryz.results76, go_sem, z0, z1, z2, z3, z4, z5, z6]) rfl ⟨(verRV 5 s0.lo), rfl, HS9.out, HB9.out⟩
  | false =>
  have q1 : (FloatKind.f64.format.order f g == some .eq) = false := HPt.out.trans hpt
  have HPr : Hid (pr = few 9 (parts (l.map RSp.sp))) := by unfold Hid; rw [HPc.out, hpt]; rfl
  clear hpt HPc HPt
  obtain ⟨_, _, a0, a1, a2, a3, a4, a5⟩ := HP.out.a5
  go_upto_block 0 with (fail)
  go_cut [7] (fun v7 wx => PcAt w wx p5 p6 s0.lo s9.hi v7 (loQ s0.lo))
  case first =>
    by_cases h1 : s0.lo.kind = 1
    · have HQ : Hid (loQ s0.lo = [(1, s0.lo)]) := by unfold Hid loQ; rw [if_pos h1]
      have q1 : (s0.lo.kind == 1) = true := beq_iff_eq.2 h1
      clear h1
      go_wp2_with (first
        | (at_builtin; have hk2 : Hid (PcAt w (wc.alloc (.cells (verRV 1 s0.lo).vals.toArray 28)) p5 p6 s0.lo s9.hi _ []) := HP.out.kept ((Below.refl _ _).alloc (Nat.le_refl _) _); refine wpList_append_rg _ rfl _ _ rfl (w.heap.size + 1) _ _ (rvs []) rfl hk2.out.own ⟨wc.heap.size, 0, none⟩ (verRV 1 s0.lo) rfl (news_new wc (verRV 1 s0.lo).vals 28) (by simp) (by have := HP.out.res.1; simp; omega) ?_; intro v3 W3 ho hg hat; have HN := Lib.hid (hk2.out.more 1 s0.lo ho hg hat); clear ho hg hat hk2)
        | fail)
      go_meet
      rw [HQ.out]
      exact HN.out
    · by_cases h2 : s0.lo.kind = 2
      · have q1 : (s0.lo.kind == 1) = false := beq_eq_false_iff_ne.2 h1
        have HQ : Hid (loQ s0.lo = [(2, s0.lo)]) := by unfold Hid loQ; rw [if_neg h1, if_pos h2]
        have q2 : (s0.lo.kind == 2) = true := beq_iff_eq.2 h2
        clear h1 h2
        go_wp2_with (first
        | (at_builtin; have hk2 : Hid (PcAt w (wc.alloc (.cells (verRV 2 s0.lo).vals.toArray 28)) p5 p6 s0.lo s9.hi _ []) := HP.out.kept ((Below.refl _ _).alloc (Nat.le_refl _) _); refine wpList_append_rg _ rfl _ _ rfl (w.heap.size + 1) _ _ (rvs []) rfl hk2.out.own ⟨wc.heap.size, 0, none⟩ (verRV 2 s0.lo) rfl (news_new wc (verRV 2 s0.lo).vals 28) (by simp) (by have := HP.out.res.1; simp; omega) ?_; intro v3 W3 ho hg hat; have HN := Lib.hid (hk2.out.more 2 s0.lo ho hg hat); clear ho hg hat hk2)
        | fail)
        go_meet
        rw [HQ.out]
        exact HN.out
      · have HQ : Hid (loQ s0.lo = []) := by unfold Hid loQ; rw [if_neg h1, if_neg h2]
        have q1 : (s0.lo.kind == 1) = false := beq_eq_false_iff_ne.2 h1
        have q2 : (s0.lo.kind == 2) = false := beq_eq_false_iff_ne.2 h2
        clear h1 h2
        go_wp2
        go_meet
        rw [HQ.out]
        exact HP.out
  case rest =>
  have HP1 := Lib.hid hcut
  clear hcut a0 a1 a2 a3 a4 a5
  obtain ⟨_, _, a0, a1, a2, a3, a4, a5⟩ := HP1.out.a6
  go_upto_block 1 with (fail)
  go_cut [7] (fun v7 wx => PcAt w wx p5 p6 s0.lo s9.hi v7 (loQ s0.lo ++ hiQ s9.hi))
  case first =>
    by_cases h1 : s9.hi.kind = 1
    · have HQ : Hid (hiQ s9.hi = [(4, s9.hi)]) := by unfold Hid hiQ; rw [if_pos h1]
      have q1 : (s9.hi.kind == 1) = true := beq_iff_eq.2 h1
      clear h1
      go_wp2_with (first
        | (at_builtin; have hk2 : Hid (PcAt w (wc.alloc (.cells (verRV 4 s9.hi).vals.toArray 28)) p5 p6 s0.lo s9.hi _ (loQ s0.lo)) := HP1.out.kept ((Below.refl _ _).alloc (Nat.le_refl _) _); refine wpList_append_rg _ rfl _ _ rfl (w.heap.size + 1) _ _ (rvs (loQ s0.lo)) rfl hk2.out.own ⟨wc.heap.size, 0, none⟩ (verRV 4 s9.hi) rfl (news_new wc (verRV 4 s9.hi).vals 28) (by have := loQ_len s0.lo; omega) (by have := HP1.out.res.1; simp; omega) ?_; intro v3 W3 ho hg hat; have HN := Lib.hid (hk2.out.more 4 s9.hi ho hg hat); clear ho hg hat hk2)
        | fail)
      go_meet
      rw [HQ.out]
      exact HN.out
    · by_cases h2 : s9.hi.kind = 2
      · have q1 : (s9.hi.kind == 1) = false := beq_eq_false_iff_ne.2 h1
        have HQ : Hid (hiQ s9.hi = [(3, s9.hi)]) := by unfold Hid hiQ; rw [if_neg h1, if_pos h2]
        have q2 : (s9.hi.kind == 2) = true := beq_iff_eq.2 h2
        clear h1 h2
        go_wp2_with (first
        | (at_builtin; have hk2 : Hid (PcAt w (wc.alloc (.cells (verRV 3 s9.hi).vals.toArray 28)) p5 p6 s0.lo s9.hi _ (loQ s0.lo)) := HP1.out.kept ((Below.refl _ _).alloc (Nat.le_refl _) _); refine wpList_append_rg _ rfl _ _ rfl (w.heap.size + 1) _ _ (rvs (loQ s0.lo)) rfl hk2.out.own ⟨wc.heap.size, 0, none⟩ (verRV 3 s9.hi) rfl (news_new wc (verRV 3 s9.hi).vals 28) (by have := loQ_len s0.lo; omega) (by have := HP1.out.res.1; simp; omega) ?_; intro v3 W3 ho hg hat; have HN := Lib.hid (hk2.out.more 3 s9.hi ho hg hat); clear ho hg hat hk2)
        | fail)
        go_meet
        rw [HQ.out]
        exact HN.out
      · have HQ : Hid (hiQ s9.hi = []) := by unfold Hid hiQ; rw [if_neg h1, if_neg h2]
        have q1 : (s9.hi.kind == 1) = false := beq_eq_false_iff_ne.2 h1
        have q2 : (s9.hi.kind == 2) = false := beq_eq_false_iff_ne.2 h2
        clear h1 h2
        go_wp2
        go_meet
        rw [HQ.out]
        rw [List.append_nil]; exact HP1.out
  case rest =>
  have HP2 := Lib.hid hcut
  clear hcut a0 a1 a2 a3 a4 a5
  go_wp2
  go_loopw [7, 9, 71] (fun v7 _ iv W' => ∃ k : Nat, k ≤ p ∧ iv = .int .i64 (k : Int) ∧ Hid (PcAt w W' p5 p6 s0.lo s9.hi v7 (loQ s0.lo ++ hiQ s9.hi ++ neQ (l.take k)))) (fun _ _ iv _ => p - (intOf iv).toNat)
  case atStart => exact ⟨0, Nat.zero_le _, rfl, by have h := HP2.out; unfold Hid; rw [List.take_zero, show neQ [] = [] from rfl, List.append_nil]; exact h⟩
  case round =>
    obtain ⟨k, hk, rfl, HQ⟩ := hrel
    by_cases hlt : k < p
    · skip
      have HS := Lib.hid (HCell.out k (by omega))
      have hll : k < l.length := by omega
      have HNe := Lib.hid (neQ_next hll)
      have HSk : Hid (SpAt wr b (o + k * 12) (l.getD k default)) := fun i v hv => (HQ.out.bel.cell (p := ⟨b, o + k * 12 + i, none⟩) hbw).trans (HS.out i v hv)
      obtain ⟨s, hs⟩ : ∃ s, l.getD k default = s := ⟨_, rfl⟩
      rw [hs] at HSk HNe
      obtain ⟨s0c, s1, s2, s3, s4, s5, s6, s7, s8, s9c, s10, s11⟩ := SpAt.cells HSk.out
      have hlti : (k : Int) < (p : Int) := by omega
      have HQ1 : Hid (PcAt w (wr.alloc (.cells s.vals.toArray 43)) p5 p6 s0.lo s9.hi u7 (loQ s0.lo ++ hiQ s9.hi ++ neQ (l.take k))) := HQ.out.kept ((Below.refl _ _).alloc (Nat.le_refl _) _)
      have hql : (loQ s0.lo ++ hiQ s9.hi ++ neQ (l.take k)).length ≤ 1000000 := by
          have h1 := loQ_len s0.lo
          have h2 := hiQ_len s9.hi
          rw [List.length_append, List.length_append]
          unfold neQ
          rw [List.length_map, List.length_take]; omega
      clear HS hs
      have H12 : Hid (At12B (wr.alloc (.cells s.vals.toArray 43)) wr.heap.size (.int .i64 s.lo.kind) (.int .u64 (s.lo.v.a : Int)) (.int .u64 (s.lo.v.b : Int)) (.int .u64 (s.lo.v.c : Int)) (.slice s.lo.A s.lo.v.pre.length s.lo.c) (.slice s.lo.B s.lo.v.build.length s.lo.d) (.int .i64 s.hi.kind) (.int .u64 (s.hi.v.a : Int)) (.int .u64 (s.hi.v.b : Int)) (.int .u64 (s.hi.v.c : Int)) (.slice s.hi.A s.hi.v.pre.length s.hi.c) (.slice s.hi.B s.hi.v.build.length s.hi.d)) := At12B.new _ _ _ _ _ _ _ _ _ _ _ _ _ _
      go_upto_region 18 with (fail)
      change Code.wp _ _ _ _ (wr.alloc (.cells s.vals.toArray 43))
      generalize (wr.alloc (.cells s.vals.toArray 43)) = W8 at HQ1 H12 ⊢
      clear s0c s1 s2 s3 s4 s5 s6 s7 s8 s9c s10 s11 HQ HSk
      obtain ⟨_, _, t0, t1, t2, t3, t4, t5, t6, t7, t8, t9, t10, t11⟩ := H12.out
      go_wp2_with (first
        | (at_builtin; have hk2 : Hid (PcAt w (W8.alloc (.cells (verRV 6 s.hi).vals.toArray 28)) p5 p6 s0.lo s9.hi _ (loQ s0.lo ++ hiQ s9.hi ++ neQ (l.take k))) := HQ1.out.kept ((Below.refl _ _).alloc (Nat.le_refl _) _); refine wpList_append_rg _ rfl _ _ rfl (w.heap.size + 1) _ _ (rvs (loQ s0.lo ++ hiQ s9.hi ++ neQ (l.take k))) rfl hk2.out.own ⟨W8.heap.size, 0, none⟩ (verRV 6 s.hi) rfl (news_new W8 (verRV 6 s.hi).vals 28) (by omega) (by have := HQ1.out.res.1; simp; omega) ?_; intro v3 W3 ho hg hat; have HN := Lib.hid (hk2.out.more 6 s.hi ho hg hat); clear ho hg hat hk2)
        | fail)
      exact ⟨⟨k + 1, by omega, by go_num, by have h := HN.out; rw [List.append_assoc, ← HNe.out] at h; exact h⟩, by simp [intOf]; omega⟩
    · skip
      obtain rfl : k = p := by omega
      have HAll : Hid (PcAt w wr p5 p6 s0.lo s9.hi u7 (allQ l k)) := by unfold Hid; rw [HAllQ.out]; exact HQ.out
      have hex : ∃ L e n9, u7 = .slice L n9 e ∧ n9 ≤ e ∧ (L = none → e = 0) ∧ RgRow wr (Strs w B) L n9 (parts (l.map RSp.sp)) ∧ n9 ≤ 1000000 := by
        obtain ⟨L, e, h1, h2, h3, h4⟩ := HAll.out.row hB HOwn.out HGood.out
        rw [HParts.out] at h4
        refine ⟨L, e, _, h1, h2, h3, h4, ?_⟩
        have h5 := loQ_len s0.lo
        have h6 := hiQ_len s9.hi
        rw [HAllQ.out, List.length_append, List.length_append]
        unfold neQ
        rw [List.length_map, List.length_take]; omega
      have HRes := Lib.hid HAll.out.res
      have HBel := Lib.hid HAll.out.bel
      obtain ⟨L, e, n9, rfl, he, hnil, hrow, hn9⟩ := hex
      have HRw := Lib.hid hrow
      have HNil := Lib.hid hnil
      generalize parts (l.map RSp.sp) = ps at HRw HPr
      have hlt2 : ¬ (k : Int) < (k : Int) := Int.lt_irrefl _
      clear hrow hnil hlt HQ HAll HOwn HGood HParts HAllQ HP HP1 HP2 HCell HRow HE0 HE9 HFirst HFV hk
      go_wp2_with fail
      refine (joined_any 9 L n9 e ps (Strs w B) wr HRw.out he HNil.out hn9).mono ?_
      rintro e4 W4 ⟨x, he4, hx, hb⟩
      unfold RV.agg at he4
      subst he4
      have HR4 := Lib.hid (HRes.out.kept hb HRes.out.1)
      have HB4 := Lib.hid (HBel.out.trans (hb.mono HBel.out.size))
      have HK9 := Lib.hid (Range.setR_at (x := x) HR4.out)
      have HB9 : Hid (Below w.heap.size w (Range.setR W4 w.heap.size x)) := HB4.out.trans (Range.setR_below w.heap.size (Nat.le_refl _) x)
      have HS9 : Hid (Range.Lies (Range.setR W4 w.heap.size x) (Strs w B) pr x) := by
        unfold Hid
        rw [HPr.out]
        exact hx.keep (Range.setR_keep (strs_not w B) x)
      obtain ⟨_, hfz, r0, r1, r2, r3, r4, r5, r6⟩ := HR4.out
      clear hb hx HRw HNil HR4 HB4 HRes HBel
      go_wp2
      change bodyPost _ _ _ _ _ (Range.setR W4 w.heap.size x)
      generalize Range.setR W4 w.heap.size x = W9 at HK9 HB9 HS9 ⊢
      obtain ⟨_, _, z0, z1, z2, z3, z4, z5, z6⟩ := HK9.out
      exact bodyPost_ret (v := .agg #[.int .i64 x.kind, .int .u64 (x.v.a : Int), .int .u64 (x.v.b : Int), .int .u64 (x.v.c : Int), .slice x.A x.v.pre.length x.c, .slice x.B x.v.build.length x.d, .slice x.L x.n x.e]) (by simp [results, Tryz.results76, go_sem, z0, z1, z2, z3, z4, z5, z6]) rfl ⟨x, rfl, HS9.out, HB9.out⟩
end Go.Proofs.YtgfbflnhjpbceaaGreatDoor.Nrm

namespace Go.Proofs.YtgfbflnhjpbceaaGreatDoor.Range
open Go.RowKit Num Ident Semver

/-- A level: its range and where it lies, how deep it may stand, how many of its ones are told, what stands behind the last one. -/
structure Lv where
  b : Nat
  o : Nat
  r : Rng
  x : RV
  d : Nat
  told : Nat
  e : List UInt8
instance : Inhabited Lv := ⟨⟨0, 0, noRng, default, 0, 0, []⟩⟩
def Lv.vals (y : Lv) : List Value := [.pointer (some ⟨y.b, y.o, none⟩), .int .i64 (y.told : Int), .string (Ident.mk y.e)]
theorem lv_len (y : Lv) : y.vals.length = 3 := rfl
theorem lv_one (y : Lv) : ∀ u ∈ y.vals, u.oneCell' = true := by
  intro u hu; simp only [Lv.vals, List.mem_cons, List.mem_nil_iff, or_false] at hu
  rcases hu with rfl | rfl | rfl <;> rfl
structure LvOk (W : World) (B : Nat) (y : Lv) : Prop where
  cells : CellsAt W y.b y.o y.x
  lt : y.b < B
  lies : Lies W (LtB B) y.r y.x
  good : goodR y.r y.d = true
  told : y.told ≤ y.r.subs.length
  few : wt y.r ≤ 4000000
theorem LvOk.kept {W W' : World} {B : Nat} {y : Lv} (h : LvOk W B y) (k : KeepS (LtB B) W W') : LvOk W' B y := ⟨h.cells.keep k h.lt, h.lt, h.lies.keep k, h.good, h.told, h.few⟩
/-- What is still to be told of a level. -/
def lvRest (y : Lv) : List UInt8 := textL y.r.kind y.r.subs.length (y.r.subs.drop y.told) y.told ++ y.e
def restT : List Lv → List UInt8
  | [] => []
  | y :: T => restT T ++ lvRest y
theorem restT_more : ∀ (T : List Lv) (y : Lv), restT (T ++ [y]) = lvRest y ++ restT T
  | [], y => by simp [restT]
  | z :: T, y => by rw [List.cons_append, restT, restT_more T y, restT, List.append_assoc]
def lvW (y : Lv) : Nat := 2 * wtL (y.r.subs.drop y.told) + 1
def lsum : List Lv → Nat
  | [] => 0
  | y :: T => lvW y + lsum T
theorem lsum_more : ∀ (T : List Lv) (y : Lv), lsum (T ++ [y]) = lsum T + lvW y
  | [], y => by simp [lsum]
  | z :: T, y => by rw [List.cons_append, lsum, lsum_more T y, lsum]; omega
theorem lsum_len : ∀ T : List Lv, T.length ≤ lsum T
  | [] => Nat.le_refl _
  | y :: T => by rw [List.length_cons, lsum]; have := lsum_len T; unfold lvW; omega
theorem most_good {r : Rng} {d : Nat} (h : goodR r d = true) : most r.kind r.subs.length = r.subs.length := by
  obtain ⟨kind, v, l⟩ := r
  obtain ⟨_, _, h⟩ := good_cases h
  simp only [Rng.kind, Rng.subs]
  unfold most
  rcases h with ⟨h1, h2, _, rfl⟩ | ⟨_, ⟨rfl, rfl⟩ | ⟨h1, _⟩ | ⟨rfl, y, rfl⟩⟩
  · simp
  · simp
  · rw [if_pos h1]
  · simp
theorem text_good {r : Rng} {d : Nat} (h : goodR r d = true) : textR r = markR r.kind r.ver ++ textL r.kind r.subs.length r.subs 0 := by
  have := most_good h
  obtain ⟨kind, v, l⟩ := r
  rw [textR_eq]
  simp only [Rng.kind, Rng.ver, Rng.subs] at this ⊢
  rw [this]
/-- A level's next one: what is told of it, and what is left. -/
theorem lvRest_next (y : Lv) (h : y.told < y.r.subs.length) (b o d : Nat) (x : RV) (hg : goodR (y.r.subs.getD y.told noRng) d = true) :
    lvRest y = aheadR y.r.kind (y.r.subs.getD y.told noRng).kind y.told ++ (openR y.r.kind (y.r.subs.getD y.told noRng).kind ++ (markR (y.r.subs.getD y.told noRng).kind (y.r.subs.getD y.told noRng).ver ++ (lvRest ⟨b, o, y.r.subs.getD y.told noRng, x, d, 0, shutR y.r.kind (y.r.subs.getD y.told noRng).kind⟩ ++ lvRest { y with told := y.told + 1 }))) := by
  have e : y.r.subs.drop y.told = y.r.subs.getD y.told noRng :: y.r.subs.drop (y.told + 1) := by
    rw [List.drop_eq_getElem_cons h]
    simp [List.getD, List.getElem?_eq_getElem h]
  unfold lvRest
  rw [e, textL_cons, if_pos h, text_good hg, List.drop_zero]
  simp only [List.append_assoc]
theorem lvW_next (y : Lv) (h : y.told < y.r.subs.length) (b o d : Nat) (x : RV) (e : List UInt8) :
    lvW ⟨b, o, y.r.subs.getD y.told noRng, x, d, 0, e⟩ + lvW { y with told := y.told + 1 } < lvW y := by
  have hw := wtL_drop y.r.subs y.told h
  unfold lvW
  simp only [List.drop_zero]
  omega
theorem bld_block {W : World} {B b : Nat} {l : List UInt8} (h : Bld W B b l) : ∃ c, W.heap[b]? = some (.cells c 71 (0, 0)) := by
  rcases h with ⟨_, v, h, _⟩ | ⟨_, v, h, _⟩ <;> exact ⟨_, h⟩
theorem own_kind {w : World} {B : Nat} {e : TypeId} {size : Nat} {v : Value} {n : Nat} {xs : List Value} (h : w.ownsRow B e size v n xs) : ∀ g, v.ownBlock = some g → ∃ c, w.heap[g]? = some (.cells c e (0, 0)) := by
  intro g hg
  rcases h.2 with ⟨rfl, _⟩ | ⟨g', cap, cur, rfl, _, hgg, _⟩
  · simp [Value.ownBlock] at hg
  · simp [Value.ownBlock] at hg
    subst hg
    exact ⟨cur, hgg⟩
theorem own_wrote {W W' : World} {B C b k n : Nat} {v : Value} {xs : List Value} {l l' : List UInt8} (h : W.ownsRow C 78 k v n xs) (hb : Bld W B b l) (hw : Wrote W B b l' W') : W'.ownsRow C 78 k v n xs := by
  obtain ⟨_, _, hk⟩ := hw
  obtain ⟨c0, hc0⟩ := bld_block hb
  refine ⟨h.1, ?_⟩
  rcases h.2 with h2 | ⟨g, cap, cur, hv, hg, hh, r⟩
  · exact .inl h2
  · refine .inr ⟨g, cap, cur, hv, hg, hk g _ hh (fun e => ?_) (fun c fz e => ?_), r⟩
    · injection e with e
      subst e
      rw [hh] at hc0
      injection hc0 with hc0
      injection hc0 with _ e _
      exact absurd e (by decide)
    · injection e with _ e
      exact absurd e (by decide)
theorem atF_grown {W W' : World} {B C b k n : Nat} {p v : Value} {xs bs : List Value} (h : Lib.BuilderAtF 71 5 B b p bs W) (ho : W.ownsRow C 78 k v n xs) (hg : W.grownBy W' v.ownBlock) : Lib.BuilderAtF 71 5 B b p bs W' := by
  obtain ⟨h1, u, h2, h3, h4⟩ := h
  have lt : ∀ k o, W.heap[k]? = some o → k < W.heap.size := fun k o hk => (Array.getElem?_eq_some_iff.1 hk).1
  refine ⟨h1, u, (hg.block b (lt b _ h2) fun e => ?_).trans h2, ⟨h3.1, ?_⟩, h4⟩
  · obtain ⟨c, hc⟩ := own_kind ho b e.symm
    rw [h2] at hc
    injection hc with hc
    injection hc with _ e _
    exact absurd e (by decide)
  · rcases h3.2 with h5 | ⟨g, cap, cur, fz, e1, e2, e3, e4⟩
    · exact .inl h5
    · refine .inr ⟨g, cap, cur, fz, e1, e2, (hg.block g (lt g _ e3) fun e => ?_).trans e3, e4⟩
      obtain ⟨c, hc⟩ := own_kind ho g e.symm
      rw [e3] at hc
      injection hc with hc
      injection hc with _ e _
      exact absurd e (by decide)
theorem bld_grown {W W' : World} {B C b k n : Nat} {v : Value} {xs : List Value} {l : List UInt8} (h : Bld W B b l) (ho : W.ownsRow C 78 k v n xs) (hg : W.grownBy W' v.ownBlock) : Bld W' B b l :=
  h.elim (fun x => .inl (atF_grown x ho hg)) (fun x => .inr (atF_grown x ho hg))
/-- The levels, and the builder with what has been told. -/
structure TxW (base : Nat) (W : World) (v : Value) (T : List Lv) (bs : List UInt8) : Prop where
  own : W.ownsRow (base + 2) 78 3 v T.length (T.flatMap Lv.vals)
  bld : Bld W (base + 1) (base + 1) bs
  ok : ∀ y ∈ T, LvOk W (base + 1) y
  sz : base + 2 ≤ W.heap.size
theorem TxW.below {base : Nat} {W W' : World} {v : Value} {T : List Lv} {bs : List UInt8} (h : TxW base W v T bs) (hb : Below W.heap.size W W') : TxW base W' v T bs :=
  ⟨own_below h.own hb, h.bld.kept hb, fun y hy => (h.ok y hy).kept (KeepS.of_below hb), Nat.le_trans h.sz hb.size⟩
theorem TxW.wrote {base : Nat} {W W' : World} {v : Value} {T : List Lv} {bs bs' : List UInt8} (h : TxW base W v T bs) (hw : Wrote W (base + 1) (base + 1) bs' W') : TxW base W' v T bs' :=
  ⟨own_wrote h.own h.bld hw, hw.1, fun y hy => (h.ok y hy).kept (KeepS.lt hw.2.1), Nat.le_trans h.sz hw.2.1.size⟩
theorem lv_more (R : List Lv) (y : Lv) : (R ++ [y]).flatMap Lv.vals = R.flatMap Lv.vals ++ y.vals := by rw [List.flatMap_append]; simp
theorem lv_length (R : List Lv) (y : Lv) : (R ++ [y]).length = R.length + 1 := by rw [List.length_append]; rfl
/-- Where the last level's cells are. -/
theorem TxW.last {base : Nat} {W : World} {v : Value} {R : List Lv} {y : Lv} {bs : List UInt8} (h : TxW base W v (R ++ [y]) bs) : ∃ g cp, v = .slice (some ⟨g, 0, none⟩) (R.length + 1) cp ∧ base + 2 ≤ g ∧ g < W.heap.size ∧ R.length + 1 ≤ cp ∧
    W.cell? ⟨g, R.length * 3, none⟩ = some (.pointer (some ⟨y.b, y.o, none⟩)) ∧ W.cell? ⟨g, R.length * 3 + 1, none⟩ = some (.int .i64 (y.told : Int)) ∧ W.cell? ⟨g, R.length * 3 + 2, none⟩ = some (.string (Ident.mk y.e)) ∧ ∀ o, W.frozen? ⟨g, o, none⟩ = false := by
  have ho := h.own
  have hlen := lv_length R y
  rw [lv_length] at ho
  rcases ho.2 with ⟨_, h0⟩ | ⟨g, cp, cur, rfl, hg, hh, hn, _⟩
  · exact absurd h0 (Nat.succ_ne_zero _)
  · have hgt : ∀ i, i < 3 → W.cell? ⟨g, R.length * 3 + i, none⟩ = y.vals[i]? := fun i hi => by
      rw [ho.cellAt (R.length * 3 + i) (by omega), flat_get Lv.vals 3 lv_len _ _ _ (by omega) hi]
      simp [List.getD]
    exact ⟨g, cp, rfl, hg, (Array.getElem?_eq_some_iff.1 hh).1, hn, hgt 0 (by omega), hgt 1 (by omega), hgt 2 (by omega), fun o => ho.frozenAt o⟩
theorem TxW.pop {base : Nat} {W : World} {g cp : Nat} {R : List Lv} {y : Lv} {bs : List UInt8} (h : TxW base W (.slice (some ⟨g, 0, none⟩) (R.length + 1) cp) (R ++ [y]) bs) : TxW base W (.slice (some ⟨g, 0, none⟩) R.length cp) R bs := by
  refine ⟨?_, h.bld, fun z hz => h.ok z (by simp [hz]), h.sz⟩
  have ho := h.own
  rw [lv_length, lv_more] at ho
  exact ownsRow_pop (by rw [flat_len Lv.vals 3 lv_len]) ho
/-- One more of the last level's ones is told. -/
theorem TxW.next {base : Nat} {W : World} {g cp : Nat} {R : List Lv} {y : Lv} {bs : List UInt8} (h : TxW base W (.slice (some ⟨g, 0, none⟩) (R.length + 1) cp) (R ++ [y]) bs) (ht : y.told < y.r.subs.length) (hg : base + 2 ≤ g) :
    TxW base (W.setCell ⟨g, R.length * 3 + 1, none⟩ (.int .i64 ((y.told + 1 : Nat) : Int))) (.slice (some ⟨g, 0, none⟩) (R.length + 1) cp) (R ++ [{ y with told := y.told + 1 }]) bs := by
  have ho := h.own
  rw [lv_length, lv_more] at ho
  obtain ⟨h1, h2⟩ := ho.stored (R.length * 3 + 1) (.int .i64 ((y.told + 1 : Nat) : Int))
  have hK : KeepS (LtB (base + 1)) W (W.setCell ⟨g, R.length * 3 + 1, none⟩ (.int .i64 ((y.told + 1 : Nat) : Int))) := KeepS.set (by unfold LtB; omega) _
  refine ⟨?_, bld_grown h.bld ho h2, fun z hz => ?_, by simpa using h.sz⟩
  · rw [lv_length, lv_more]
    rw [List.set_append_right _ _ (by rw [flat_len Lv.vals 3 lv_len]; omega), flat_len Lv.vals 3 lv_len, show R.length * 3 + 1 - R.length * 3 = 1 by omega] at h1
    exact h1
  · rcases List.mem_append.1 hz with hz | hz
    · exact (h.ok z (by simp [hz])).kept hK
    · rw [List.mem_singleton] at hz
      subst hz
      have := (h.ok y (by simp)).kept hK
      exact ⟨this.cells, this.lt, this.lies, this.good, ht, this.few⟩
theorem TxW.lastAt {base : Nat} {W : World} {g cp : Nat} {R : List Lv} {y : Lv} {bs : List UInt8} (h : TxW base W (.slice (some ⟨g, 0, none⟩) (R.length + 1) cp) (R ++ [y]) bs) : base + 2 ≤ g ∧ g < W.heap.size ∧
    W.cell? ⟨g, R.length * 3, none⟩ = some (.pointer (some ⟨y.b, y.o, none⟩)) ∧ W.cell? ⟨g, R.length * 3 + 1, none⟩ = some (.int .i64 (y.told : Int)) ∧ W.cell? ⟨g, R.length * 3 + 2, none⟩ = some (.string (Ident.mk y.e)) ∧ ∀ o, W.frozen? ⟨g, o, none⟩ = false := by
  obtain ⟨g', cp', e, h1, h2, _, h3⟩ := h.last
  injection e with e
  injection e with e
  injection e with e
  subst e
  exact ⟨h1, h2, h3⟩
/-- The level that is about to be laid behind the others: a block of its own. -/
def Inn (base : Nat) (W : World) (nb b o : Nat) (e : List UInt8) : Prop := W.ownsRow (base + 2) 78 3 (.slice (some ⟨nb, 0, none⟩) 1 1) 1 [.pointer (some ⟨b, o, none⟩), .int .i64 0, .string (Ident.mk e)]
theorem Inn.new {base : Nat} {W : World} (b o : Nat) (h : base + 2 ≤ W.heap.size) : Inn base (W.alloc (.cells #[.pointer (some ⟨b, o, none⟩), .int .i64 0, .string ⟨#[]⟩] 78)) W.heap.size b o [] :=
  World.ownsRow_lit (base := base + 2) (e := 78) (size := 3) W #[.pointer (some ⟨b, o, none⟩), .int .i64 0, .string ⟨#[]⟩] 1 h (by decide) rfl
theorem Inn.below {base : Nat} {W W' : World} {nb b o : Nat} {e : List UInt8} (h : Inn base W nb b o e) (hb : Below W.heap.size W W') : Inn base W' nb b o e := own_below h hb
theorem Inn.wrote {base : Nat} {W W' : World} {nb b o : Nat} {e : List UInt8} (h : Inn base W nb b o e) {v : Value} {T : List Lv} {bs bs' : List UInt8} (hT : TxW base W v T bs) (hw : Wrote W (base + 1) (base + 1) bs' W') : Inn base W' nb b o e := own_wrote h hT.bld hw
theorem Inn.cells {base : Nat} {W : World} {nb b o : Nat} {e : List UInt8} (h : Inn base W nb b o e) : W.cell? ⟨nb, 0, none⟩ = some (.pointer (some ⟨b, o, none⟩)) ∧ W.cell? ⟨nb, 1, none⟩ = some (.int .i64 0) ∧ W.cell? ⟨nb, 2, none⟩ = some (.string (Ident.mk e)) ∧ (∀ i, W.frozen? ⟨nb, i, none⟩ = false) ∧ base + 2 ≤ nb := by
  have h1 := h
  unfold Inn at h1
  exact ⟨h1.cellAt 0 (by omega), h1.cellAt 1 (by omega), h1.cellAt 2 (by omega), fun i => h1.frozenAt i, (h1.lt nb rfl).1⟩
theorem Inn.shut {base : Nat} {W : World} {nb b o : Nat} {e : List UInt8} (h : Inn base W nb b o e) (e' : List UInt8) {v : Value} {T : List Lv} {bs : List UInt8} (hT : TxW base W v T bs) (hne : v.ownBlock ≠ some nb) :
    Inn base (W.setCell ⟨nb, 2, none⟩ (.string (Ident.mk e'))) nb b o e' ∧ TxW base (W.setCell ⟨nb, 2, none⟩ (.string (Ident.mk e'))) v T bs ∧ Below (base + 2) W (W.setCell ⟨nb, 2, none⟩ (.string (Ident.mk e'))) := by
  have hb := h.cells.2.2.2.2
  have h1 := h
  unfold Inn at h1
  obtain ⟨h2, h3⟩ := h1.stored 2 (.string (Ident.mk e'))
  have hK : KeepS (LtB (base + 1)) W (W.setCell ⟨nb, 2, none⟩ (.string (Ident.mk e'))) := KeepS.set (by unfold LtB; omega) _
  exact ⟨h2, ⟨ownsRow_setCell_other hT.own hne _, bld_grown hT.bld h1 h3, fun y hy => (hT.ok y hy).kept hK, by simpa using hT.sz⟩, (Below.refl _ _).setCell hb _⟩
theorem lvInfo : (Tryz.prog.info? 78).map (fun i => (i.zero, i.size, i.bytes)) = some (some (.agg #[.pointer none, .int .i64 0, .string ⟨#[]⟩]), 3, 32) := by kernel_rfl
theorem wpList_append_lv (w : World) {ops : Array Oper} {rest : List Oper} {o : Oper} {a : Act} {Q : Exit → Act → World → Prop} (hgd : o.guard = none) (s x : Operand)
    (ho : o.op = .call { callee := .builtin .append, args := #[s, x], argTypes := #[79, 79] })
    (base : Nat) (v : Value) (T : List Lv) (bs : List UInt8) (hs : a.eval s = v) (hT : TxW base w v T bs)
    (ad : Addr) (y : Lv) (hx : a.eval x = .slice (some ad) 1 1) (hnews : ∀ j u, y.vals[j]? = some u → w.cell? (ad.add j) = some u) (hok : LvOk w (base + 1) y) (hb : T.length ≤ 5000000)
    (h : ∀ v' w', TxW base w' v' (T ++ [y]) bs → Below (base + 2) w w' → wpList Tryz.prog ops Q rest (a.put o.dst v') w') : wpList Tryz.prog ops Q (o :: rest) a w := by
  obtain ⟨i, hi, hz, hsz, hby⟩ := info_parts lvInfo
  refine wpList_append_own_at w hgd s x 79 ho (base + 2) 78 i _ 3 32 Tryz.underlying79 hi hz hsz hby rfl (by omega) v T.length _ hs hT.own ad 1 1 y.vals hx rfl hnews (lv_one y) (by unfold maxLen; omega) (by omega) hT.sz (fun v' w' h2 h3 _ h5 => ?_)
  have hB : Below (base + 2) w w' := ⟨h3.os, h3.tape, h3.output, h3.size, fun k hk => h3.block k (by have := hT.sz; omega) (fun e2 => by have := (hT.own.lt k e2.symm).1; omega)⟩
  have hK : KeepS (LtB (base + 1)) w w' := KeepS.lt (hB.mono (by omega))
  refine h v' w' ⟨by rw [lv_length, lv_more]; exact h2, bld_grown hT.bld hT.own h3, fun z hz => ?_, Nat.le_trans hT.sz h3.size⟩ hB
  rcases List.mem_append.1 hz with hz | hz
  · exact (hT.ok z hz).kept hK
  · rw [List.mem_singleton] at hz
    subst hz
    exact hok.kept hK
end Go.Proofs.YtgfbflnhjpbceaaGreatDoor.Range

namespace Go.Proofs.YtgfbflnhjpbceaaGreatDoor.Nrm
open Go.RowKit Num Ident Semver Prec Span
open Range (Rng noRng goodR goodL fits RV RAt RgRow LtB Elems wt wtL wtL_len wt_mem KeepS zeroRV rgInfo rv_one rv_len own_kind)
theorem op_append_rg (w : World) {o : Oper} {a : Act} {K : Act → World → Prop} {Q : Exit → Act → World → Prop} (s x : Operand)
    (ho : o.op = .call { callee := .builtin .append, args := #[s, x], argTypes := #[26, 26] })
    (base : Nat) (v : Value) (n : Nat) (xs : List RV) (hs : a.eval s = v) (hown : w.ownsRow base 28 7 v n (xs.flatMap RV.vals))
    (ad : Addr) (y : RV) (hx : a.eval x = .slice (some ad) 1 1) (hnews : ∀ j u, y.vals[j]? = some u → w.cell? (ad.add j) = some u) (hb : n ≤ 5000000) (hbase : base ≤ w.heap.size)
    (h : ∀ v' w', w'.ownsRow base 28 7 v' (n + 1) ((xs ++ [y]).flatMap RV.vals) → w.grownBy w' v.ownBlock → (v'.ownBlock = v.ownBlock ∨ v'.ownBlock = some w.heap.size) → K (a.put o.dst v') w') : Oper.wp Tryz.prog o a w K Q := by
  obtain ⟨i, hi, hz, hsz, hby⟩ := info_parts rgInfo
  obtain ⟨v', w', hr, h2, h3, h4, h5⟩ := run_append_own_at (P := Tryz.prog) w base 26 o.type 28 i _ 7 104 Tryz.underlying26 hi hz hsz hby rfl (by omega) v n _ hown ad 1 1 y.vals rfl hnews (rv_one y) (by unfold maxLen; omega) (by omega) hbase
  unfold Oper.wp execOp
  simp only [ho, resolve, invoke, builtin, Sem.run_bind, Sem.run_pure, Result.andThen_ok, List.map_toArray, List.map_cons, List.map_nil, hs, hx, hr]
  exact h v' w' (by rw [List.flatMap_append]; simpa using h2) h3 h5
/-- What holds while pieces are gathered. -/
structure PsAt (w : World) (B n : Nat) (L : List Sp) (v : Value) (done : List Rng) (xs : List RV) (W : World) : Prop where
  cx : CxAt W w.heap.size n (ends L n)
  own : W.ownsRow (w.heap.size + 1) 28 7 v done.length (xs.flatMap RV.vals)
  len : xs.length = done.length
  lies : ∀ j, j < done.length → Range.Lies W (Elems B v) (done.getD j noRng) (xs.getD j default)
  bel : Below w.heap.size w W
theorem PsAt.kept {w : World} {B n : Nat} {L : List Sp} {v : Value} {done : List Rng} {xs : List RV} {W W' : World} (h : PsAt w B n L v done xs W) (hb : Below W.heap.size W W') : PsAt w B n L v done xs W' :=
  ⟨h.cx.kept hb, own_below h.own hb, h.len, fun j hj => (h.lies j hj).keep (KeepS.of_below hb), h.bel.trans (hb.mono h.bel.size)⟩
theorem strs_elems {W : World} {b0 B k : Nat} {v : Value} {ys : List Value} (h : W.ownsRow b0 28 7 v k ys) {g : Nat} (hs : Strs W B g) : Elems B v g := by
  refine ⟨hs.1, fun e => ?_⟩
  obtain ⟨c, hc⟩ := own_kind h g e.symm
  have hlt := (h.lt g e.symm).2
  rcases hs.2 with h1 | ⟨c2, h1⟩
  · omega
  · rw [hc] at h1
    injection h1 with h1
    injection h1 with _ h2 _
    exact absurd h2 (by decide)
theorem CxAt.grown {w w' : World} {row : Option Nat} {g n : Nat} {E : Nat → Value} (h : CxAt w g n E) (hg : w.grownBy w' row) (hne : some g ≠ row) : CxAt w' g n E := by
  have k := hg.block g h.1 hne
  exact ⟨Nat.lt_of_lt_of_le h.1 hg.size, fun o => (World.frozen?_of_block (w := w) (a := ⟨g, o, none⟩) k).trans (h.2.1 o), fun j hj => (World.cell?_of_block (w := w) (a := ⟨g, j, none⟩) k).trans (h.2.2 j hj)⟩
theorem PsAt.more {w : World} {B n : Nat} {L : List Sp} {v v' : Value} {done : List Rng} {xs : List RV} {W W' : World} {r : Rng} {x : RV} (h : PsAt w B n L v done xs W) (ho : W'.ownsRow (w.heap.size + 1) 28 7 v' (done.length + 1) ((xs ++ [x]).flatMap RV.vals)) (hg : W.grownBy W' v.ownBlock)
    (hat : v'.ownBlock = v.ownBlock ∨ v'.ownBlock = some W.heap.size) (hx : Range.Lies W (Elems B v) r x) : PsAt w B n L v' (done ++ [r]) (xs ++ [x]) W' := by
  have hel : ∀ (q : Rng) (y : RV), Range.Lies W (Elems B v) q y → Range.Lies W' (Elems B v') q y := fun q y hq => by
    have h1 : Range.Lies W (fun g => Elems B v g ∧ Elems B v' g) q y := hq.mono fun g hS hlt => ⟨hS, hS.1, by
      rcases hat with e | e
      · rw [e]; exact hS.2
      · rw [e]; intro h; injection h with h; omega⟩
    exact (h1.keep (KeepS.grown hg fun g hS => hS.1.2)).mono fun g hS _ => hS.2
  refine ⟨h.cx.grown hg (fun e => by have := (h.own.lt _ e.symm).1; omega), by rw [List.length_append]; exact ho, by rw [List.length_append, List.length_append, h.len]; rfl, fun k hk => ?_, h.bel.trans ((Below.refl _ _).grown hg h.bel.size fun g e => by have := (h.own.lt _ e).1; omega)⟩
  rw [List.length_append, List.length_singleton] at hk
  by_cases hlt : k < done.length
  · have e1 : (done ++ [r]).getD k noRng = done.getD k noRng := by simp [List.getD, List.getElem?_append_left hlt]
    have e2 : (xs ++ [x]).getD k default = xs.getD k default := by simp [List.getD, List.getElem?_append_left (show k < xs.length by rw [h.len]; exact hlt)]
    rw [e1, e2]; exact hel _ _ (h.lies k hlt)
  · have ek : k = done.length := by omega
    have e1 : (done ++ [r]).getD k noRng = r := by rw [ek]; simp [List.getD]
    have e2 : (xs ++ [x]).getD k default = x := by rw [ek, ← h.len]; simp [List.getD]
    rw [e1, e2]; exact hel _ _ hx
theorem PsAt.row {w : World} {B n : Nat} {L : List Sp} {v : Value} {done : List Rng} {xs : List RV} {W : World} (h : PsAt w B n L v done xs W) (hB : B ≤ w.heap.size) : ∃ A e, v = .slice A done.length e ∧ done.length ≤ e ∧ (A = none → e = 0) ∧ RgRow W (fun g => B ≤ g) A done.length done :=
  Range.RgRow.of_own h.own (fun g hg => by omega) h.len rfl fun j hj => (h.lies j hj).mono fun _ hS _ => hS.1
theorem ends_at {W : World} {g n : Nat} {L : List Sp} (h : CxAt W g n (ends L n)) {j : Nat} (hj : j < n) : W.cell? ⟨g, j, none⟩ = some (.complex .f64 (fb (lk L j)) (fb (pk L (j + 1)))) := by
  rw [h.2.2 j hj]; unfold ends; rw [if_pos hj]
/-! Rows, and what is left of them. -/
theorem PsAt.bel_le {w : World} {B n : Nat} {L : List Sp} {v : Value} {done : List Rng} {xs : List RV} {W : World} (h : PsAt w B n L v done xs W) : w.heap.size + 1 ≤ W.heap.size := h.cx.1
def rowOf (L : List Sp) (f p : Nat) : List Sp := (L.drop f).take (p + 1)
theorem rowOf_len {L : List Sp} {f p : Nat} (h : f + p < L.length) : (rowOf L f p).length = p + 1 := by unfold rowOf; rw [List.length_take, List.length_drop]; omega
theorem rowOf_at {L : List Sp} {f p j : Nat} (hj : j ≤ p) : (rowOf L f p).getD j default = L.getD (f + j) default := by
  unfold rowOf
  simp only [List.getD_eq_getElem?_getD]
  rw [List.getElem?_take, if_pos (by omega), List.getElem?_drop]
theorem rowOf_last {L : List Sp} {f p : Nat} (h : f + p < L.length) : lastOf (rowOf L f p) = L.getD (f + p) default := by
  unfold lastOf; rw [rowOf_len h, Nat.add_sub_cancel, rowOf_at (Nat.le_refl p)]
theorem rowOf_next {L : List Sp} {f p : Nat} (h : f + p + 1 < L.length) : rowOf L f (p + 1) = rowOf L f p ++ [L.getD (f + p + 1) default] := by
  unfold rowOf
  rw [take_next (L.drop f) default (p + 1) (by rw [List.length_drop]; omega)]
  congr 2
  simp only [List.getD_eq_getElem?_getD]
  rw [List.getElem?_drop, Nat.add_assoc]
theorem drop_next {L : List Sp} {t : Nat} (h : t < L.length) : L.drop t = L.getD t default :: L.drop (t + 1) := by
  rw [List.drop_eq_getElem_cons h]; simp [List.getD, List.getElem?_eq_getElem h]
theorem rowOf_one {L : List Sp} {f : Nat} (h : f < L.length) : rowOf L f 0 = [L.getD f default] := by
  unfold rowOf
  rw [drop_next h]; rfl
theorem rowOf_norm {L : List Sp} (h : Span.Norm L) (f p : Nat) : Span.Norm (rowOf L f p) := by
  have h1 : Span.Norm (L.drop f) := by
    have := h
    rw [← List.take_append_drop f L] at this
    exact (norm_append this).2
  have h2 := h1
  rw [← List.take_append_drop (p + 1) (L.drop f)] at h2
  exact (norm_append h2).1
/-- What is done, the row under way, and what is left make all pieces. -/
def Half (L : List Sp) (f p : Nat) (done : List Rng) : Prop := Chain (rowOf L f p) ∧ done ++ (grp (rowOf L f p) (L.drop (f + p + 1))).map pieceR = piecesR L
theorem half_start {L : List Sp} {t : Nat} {done : List Rng} (h : done ++ piecesR (L.drop t) = piecesR L) (ht : t < L.length) : Half L t 0 done := by
  unfold Half
  rw [rowOf_one ht]
  refine ⟨Chain.one _, ?_⟩
  rw [drop_next ht] at h
  exact h
theorem half_more {L : List Sp} {f p : Nat} {done : List Rng} (h : Half L f p done) (ht : f + p + 1 < L.length) (hl : isPoint (L.getD (f + p) default).hi (L.getD (f + p + 1) default).lo = true) : Half L f (p + 1) done := by
  have hlast := rowOf_last (L := L) (f := f) (p := p) (by omega)
  have hlink : isPoint (lastOf (rowOf L f p)).hi (L.getD (f + p + 1) default).lo = true := by rw [hlast]; exact hl
  have hne : rowOf L f p ≠ [] := by intro e; have := rowOf_len (L := L) (f := f) (p := p) (by omega); rw [e] at this; simp at this
  refine ⟨by rw [rowOf_next ht]; exact h.1.snoc hne hlink, ?_⟩
  have h2 := h.2
  rw [drop_next ht, grp, if_pos hlink, ← rowOf_next ht] at h2
  exact h2
theorem half_shut {L : List Sp} {f p : Nat} {done : List Rng} (h : Half L f p done) (ht : f + p < L.length) (hl : f + p + 1 < L.length → isPoint (L.getD (f + p) default).hi (L.getD (f + p + 1) default).lo = false) : (done ++ [pieceR (rowOf L f p)]) ++ piecesR (L.drop (f + p + 1)) = piecesR L := by
  have h2 := h.2
  by_cases hlt : f + p + 1 < L.length
  · have hlast := rowOf_last (L := L) (f := f) (p := p) (by omega)
    rw [drop_next hlt, grp, if_neg (by rw [hlast, hl hlt]; simp), List.map_cons] at h2
    rw [drop_next hlt, List.append_assoc]
    exact h2
  · rw [List.drop_eq_nil_of_le (by omega), grp] at h2
    rw [List.drop_eq_nil_of_le (by omega)]
    show (done ++ [pieceR (rowOf L f p)]) ++ [] = _
    rw [List.append_nil]; exact h2
theorem SpRow.sub {w : World} {A : Option Addr} {n : Nat} {l : List RSp} (h : SpRow w A n l) {b o f p : Nat} (hA : A = some ⟨b, o, none⟩) (hf : f + p < n) : SpRow w (some ⟨b, o + f * 12, none⟩) (p + 1) ((l.drop f).take (p + 1)) := by
  have hl := h.1
  refine ⟨by rw [List.length_take, List.length_drop]; omega, fun s hs => h.2.1 s (List.mem_of_mem_drop (List.mem_of_mem_take hs)), fun _ => ?_⟩
  obtain ⟨b', o', e, hb, hc⟩ := h.2.2 (by omega)
  rw [hA] at e
  injection e with e
  injection e with e1 e2
  subst e1; subst e2
  refine ⟨b, o + f * 12, rfl, hb, fun j hj i v hv => ?_⟩
  have e3 : ((l.drop f).take (p + 1)).getD j default = l.getD (f + j) default := by
    simp only [List.getD_eq_getElem?_getD]
    rw [List.getElem?_take, if_pos hj, List.getElem?_drop]
  rw [e3] at hv
  have := hc (f + j) (by omega) i v hv
  rw [Nat.add_assoc o, ← Nat.add_mul]; exact this
end Go.Proofs.YtgfbflnhjpbceaaGreatDoor.Nrm
