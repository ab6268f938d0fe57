/-
  A set's plain range, as plain lists: it is right, has just the set, and isn't great. Plain facts.
  Ranges as memory holds them: where their versions' rows and their ranges lie; a reader's block, in which the place alone turns. Conditions: as each states.
  A reader's small steps (rangeexpr.reader: pass, stands, oneOf, lack). Conditions: the reader's block holds its bytes and a place within them.
  A reader's small steps (rangeexpr.reader: stands, oneOf, lack). Conditions: the reader's block holds its bytes and a place within them. (Made by wip/gen_rgstep.py.)
  A reader's op, and whether a further part is there (rangeexpr.reader: op, furtherEvery, furtherOne). Conditions: the reader's block holds its bytes and a place within them; the table of ops reads as it is written.
  A version's three numbers, read at a place of any bytes (semver.pointFault, semver.readCore). Condition: the slice reads as the list of bytes l.
  The row of identifiers that stands at a place of any bytes, how many bytes it has, or what is wrong (ident.Row). Condition: the slice reads as the list of bytes l.
  Versions read from any bytes at any place (semver.readRow, semver.Parse). Condition: the slice reads as the list of bytes l.
  A reader's version (rangeexpr.reader.version). Conditions: the reader's block holds its bytes and a place within them. (Made by wip/gen_rgver.py.)
-/
import Derived.Test.YtgfbflnhjpbceaaGreatDoorPartsB4
import Derived.Deep.Draws
import Derived.Test.YtgfbflnhjpbceaaGreatDoorShelfPre
import Derived.StillTailTactics
import Derived.Deep.QuietTactic
import Derived.BigQuiet
import Derived.Deep.RegionHeld3
import Derived.Deep.CutBlock
import Derived.Deep.DeepCutAuto
namespace Go.Proofs.YtgfbflnhjpbceaaGreatDoor.Nrm
open Go.RowKit Num Ident Semver Prec Span
open Range (Rng noRng goodR goodL fits wt wtL)

/-- Does just a point lie between two cuts? -/
def isPoint (a b : Cut) : Bool := decide (a.kind = 1 ∧ b.kind = 2 ∧ cmpV a.v b.v = 0)
theorem isPoint_iff (a b : Cut) : isPoint a b = true ↔ a.kind = 1 ∧ b.kind = 2 ∧ cmpV a.v b.v = 0 := by simp [isPoint]
/-- Some ranges as one. -/
def few (kind : Int) (l : List Rng) : Rng := if l.length = 0 then noRng else if l.length = 1 then l.getD 0 noRng else .mk kind noVer l
def loPart (c : Cut) : List Rng := if c.kind = 1 then [.mk 1 c.v []] else if c.kind = 2 then [.mk 2 c.v []] else []
def hiPart (c : Cut) : List Rng := if c.kind = 1 then [.mk 4 c.v []] else if c.kind = 2 then [.mk 3 c.v []] else []
def neOf (s : Sp) : Rng := .mk 6 s.hi.v []
def lastOf (l : List Sp) : Sp := l.getD (l.length - 1) default
def parts (l : List Sp) : List Rng := loPart (l.getD 0 default).lo ++ hiPart (lastOf l).hi ++ (l.take (l.length - 1)).map neOf
/-- The range of a piece. -/
def pieceR (l : List Sp) : Rng := if isPoint (l.getD 0 default).lo (l.getD 0 default).hi = true then .mk 5 (l.getD 0 default).lo.v [] else few 9 (parts l)
/-- The rows of spans between which there are points alone; of a row under way and what stands behind it. -/
def grp : List Sp → List Sp → List (List Sp)
  | row, [] => [row]
  | row, s :: rest => if isPoint (lastOf row).hi s.lo = true then grp (row ++ [s]) rest else row :: grp [s] rest
def piecesR : List Sp → List Rng
  | [] => []
  | s :: l => (grp [s] l).map pieceR
/-- The plain range of a normal set. -/
def plainR (l : List Sp) : Rng := if l.length = 0 then .mk 11 noVer [noRng] else few 10 (piecesR l)

theorem few_none (kind : Int) : few kind [] = noRng := rfl
theorem few_one (kind : Int) (r : Rng) : few kind [r] = r := rfl
theorem few_more (kind : Int) {l : List Rng} (h : 2 ≤ l.length) : few kind l = .mk kind noVer l := by unfold few; rw [if_neg (by omega), if_neg (by omega)]
theorem few_cases {l : List Rng} (P : List Rng → Prop) (h0 : P []) (h1 : ∀ r, P [r]) (h2 : 2 ≤ l.length → P l) : P l := by
  match l, h2 with
  | [], _ => exact h0
  | [r], _ => exact h1 r
  | a :: b :: l, h2 => exact h2 (by simp)

theorem inS_cons (s : Sp) (l : List Sp) (c : Cut) : inS (s :: l) c ↔ inOne s c ∨ inS l c := by
  constructor
  · rintro ⟨x, hx, h⟩
    rcases List.mem_cons.1 hx with rfl | hx
    · exact .inl h
    · exact .inr ⟨x, hx, h⟩
  · rintro (h | ⟨x, hx, h⟩)
    · exact ⟨s, List.mem_cons_self .., h⟩
    · exact ⟨x, List.mem_cons_of_mem _ hx, h⟩
theorem ahead_is {a : Cut} (ha : Span.right a = true) (h : a.kind = 1) : aheadOf a.v = a := by
  obtain ⟨k, v⟩ := a
  simp only at h
  subst h
  show Cut.mk 1 (bare v) = ⟨1, v⟩
  rw [right_bare ha]
theorem behind_is {a : Cut} (ha : Span.right a = true) (h : a.kind = 2) : behindOf a.v = a := by
  obtain ⟨k, v⟩ := a
  simp only at h
  subst h
  show Cut.mk 2 (bare v) = ⟨2, v⟩
  rw [right_bare ha]
theorem point_next {a b : Cut} (ha : Span.right a = true) (hb : Span.right b = true) (h : isPoint a b = true) : aheadOf a.v = a ∧ behindOf a.v = b ∧ a.v = b.v := by
  obtain ⟨h1, h2, h3⟩ := (isPoint_iff a b).1 h
  have e := ver_same h3 (right_few ha).2 (right_few hb).2
  exact ⟨ahead_is ha h1, by rw [e]; exact behind_is hb h2, e⟩
theorem ver_good {a : Cut} (ha : Span.right a = true) (h : a.kind = 1 ∨ a.kind = 2) : goodV a.v = true := by
  rw [right_ver h, Bool.and_eq_true] at ha; exact ha.1

/-- Between a row's spans there are points alone. -/
def Chain (l : List Sp) : Prop := ∀ i, i + 1 < l.length → isPoint (l.getD i default).hi (l.getD (i + 1) default).lo = true
theorem Chain.tail {s : Sp} {l : List Sp} (h : Chain (s :: l)) : Chain l := fun i hi => h (i + 1) (by simp; omega)
theorem last_cons (s t : Sp) (r : List Sp) : lastOf (s :: t :: r) = lastOf (t :: r) := rfl
theorem last_mem {l : List Sp} (h : l ≠ []) : lastOf l ∈ l := by
  have hp : 0 < l.length := List.length_pos_iff.2 h
  unfold lastOf
  rw [List.getD_eq_getElem?_getD, List.getElem?_eq_getElem (by omega)]
  exact List.getElem_mem _
theorem row_sem : ∀ (l : List Sp), Span.Norm l → l ≠ [] → Chain l → ∀ c, inS l c ↔ stand (l.getD 0 default).lo c ≤ 0 ∧ stand c (lastOf l).hi < 0 ∧ ∀ s ∈ l.take (l.length - 1), ¬ inOne ⟨aheadOf s.hi.v, behindOf s.hi.v⟩ c
  | [], _, h, _, _ => absurd rfl h
  | [s], _, _, _, c => by
    rw [inS_one]
    exact ⟨fun h => ⟨h.1, h.2, fun x hx => by simp at hx⟩, fun h => ⟨h.1, h.2.1⟩⟩
  | s :: t :: r, hn, _, hc, c => by
    have IH := row_sem (t :: r) hn.tail (by simp) hc.tail c
    have hs := hn.head
    have ht := hn.tail.head
    have hp : isPoint s.hi t.lo = true := hc 0 (by simp)
    obtain ⟨e1, e2, _⟩ := point_next hs.2.1 ht.1 hp
    have hst : stand s.hi t.lo < 0 := hn.ahead t (by simp)
    have hlast : lastOf (t :: r) ∈ t :: r := last_mem (by simp)
    have htake : (s :: t :: r).take ((s :: t :: r).length - 1) = s :: (t :: r).take ((t :: r).length - 1) := rfl
    rw [inS_cons, IH, last_cons, htake]
    show _ ↔ stand s.lo c ≤ 0 ∧ _
    constructor
    · rintro (h | ⟨h1, h2, h3⟩)
      · refine ⟨h.1, lt_lt h.2 (lt_lt (hn.ahead _ hlast) ((cnt_iff _).1 (hn.tail.cnt _ hlast)).2.2), fun x hx k => ?_⟩
        rcases List.mem_cons.1 hx with rfl | hx
        · rw [e1, e2] at k; exact lt_not h.2 k.1
        · have hm : x ∈ t :: r := List.mem_of_mem_take hx
          have h5 := lt_lt h.2 (lt_lt (hn.ahead x hm) ((cnt_iff _).1 (hn.tail.cnt x hm)).2.2)
          have hxk : aheadOf x.hi.v = x.hi := by
            obtain ⟨i, hi, hxi⟩ := List.mem_take_iff_getElem.1 hx
            have hlt : i + 1 < (t :: r).length := by omega
            have hpx := hc.tail i hlt
            have hx' : (t :: r).getD i default = x := by
              rw [List.getD_eq_getElem?_getD, List.getElem?_eq_getElem (by omega)]; exact hxi
            rw [hx'] at hpx
            exact ahead_is ((cnt_iff _).1 (hn.tail.cnt x hm)).2.1 ((isPoint_iff _ _).1 hpx).1
          rw [hxk] at k
          exact lt_not h5 k.1
      · refine ⟨Int.le_of_lt (lt_le (lt_lt hs.2.2 hst) h1), h2, fun x hx => ?_⟩
        rcases List.mem_cons.1 hx with rfl | hx
        · intro k; rw [e1, e2] at k; exact lt_not k.2 h1
        · exact h3 x hx
    · rintro ⟨h1, h2, h3⟩
      by_cases h4 : stand c s.hi < 0
      · exact .inl ⟨h1, h4⟩
      · right
        have h5 := not_lt h4
        have h6 := h3 s (List.mem_cons_self ..)
        rw [e1, e2] at h6
        refine ⟨?_, h2, fun x hx => h3 x (List.mem_cons_of_mem _ hx)⟩
        show stand t.lo c ≤ 0
        exact not_lt fun g => h6 ⟨h5, g⟩
theorem getD0_mem {l : List Sp} (h : l ≠ []) : l.getD 0 default ∈ l := by
  cases l with
  | nil => exact absurd rfl h
  | cons s l => exact List.mem_cons_self ..
theorem good_ver {k : Int} (h1 : 1 ≤ k) (h8 : k ≤ 8) {v : Ver} (hv : goodV v = true) {d : Nat} (hd : d ≤ 64) : goodR (.mk k v []) d = true := by
  rw [Range.goodR_eq, Bool.and_eq_true, Bool.and_eq_true, decide_eq_true_eq]
  refine ⟨⟨hd, ?_⟩, rfl⟩
  unfold fits
  rw [if_pos (by unfold Range.ofVersion; simp; omega), hv]; rfl
theorem opens_ver (o : Int) {k : Int} (h8 : k ≤ 8) (ho : o ≠ 11) : Range.opens o k = 0 := by
  unfold Range.opens Range.bracketed
  rw [if_neg ho, if_neg (by simp; omega)]
theorem goodL_of {o : Int} {l : List Rng} {d : Nat} (h : ∀ x ∈ l, goodR x (d + Range.opens o x.kind) = true) : goodL o l d = true := by
  induction l with
  | nil => rfl
  | cons x l ih =>
    rw [Range.goodL_cons, Bool.and_eq_true]
    exact ⟨h x (List.mem_cons_self ..), ih fun y hy => h y (List.mem_cons_of_mem _ hy)⟩
theorem zero_good {d : Nat} (hd : d ≤ 64) : goodR noRng d = true := by
  show goodR (.mk 0 noVer []) d = true
  rw [Range.goodR_eq, Bool.and_eq_true, Bool.and_eq_true, decide_eq_true_eq]
  exact ⟨⟨hd, by decide⟩, rfl⟩
theorem few_good {k : Int} (hk : k = 9 ∨ k = 10) {l : List Rng} (h : ∀ x ∈ l, goodR x 0 = true ∧ Range.opens k x.kind = 0) : goodR (few k l) 0 = true := by
  revert h
  refine few_cases (fun l => (∀ x ∈ l, goodR x 0 = true ∧ Range.opens k x.kind = 0) → goodR (few k l) 0 = true) (fun _ => zero_good (by omega)) (fun r h => (h r (List.mem_singleton.2 rfl)).1) (fun h2 h => ?_)
  rw [few_more k h2, Range.goodR_eq, Bool.and_eq_true, Bool.and_eq_true, decide_eq_true_eq]
  exact ⟨⟨by omega, Range.fits_many hk h2⟩, goodL_of fun x hx => by rw [(h x hx).2]; exact (h x hx).1⟩
/-- Each part is a right version's range. -/
theorem parts_ver {l : List Sp} (hn : Span.Norm l) (hl : l ≠ []) (hc : Chain l) : ∀ x ∈ parts l, ∃ k v, x = .mk k v [] ∧ 1 ≤ k ∧ k ≤ 8 ∧ goodV v = true := by
  intro x hx
  have r0 := (cnt_iff _).1 (hn.cnt _ (getD0_mem hl))
  have r9 := (cnt_iff _).1 (hn.cnt _ (last_mem hl))
  unfold parts at hx
  rcases List.mem_append.1 hx with hx | hx
  · rcases List.mem_append.1 hx with hx | hx
    · unfold loPart at hx
      by_cases h1 : (l.getD 0 default).lo.kind = 1
      · rw [if_pos h1, List.mem_singleton] at hx; exact ⟨1, _, hx, by omega, by omega, ver_good r0.1 (.inl h1)⟩
      · rw [if_neg h1] at hx
        by_cases h2 : (l.getD 0 default).lo.kind = 2
        · rw [if_pos h2, List.mem_singleton] at hx; exact ⟨2, _, hx, by omega, by omega, ver_good r0.1 (.inr h2)⟩
        · rw [if_neg h2] at hx; cases hx
    · unfold hiPart at hx
      by_cases h1 : (lastOf l).hi.kind = 1
      · rw [if_pos h1, List.mem_singleton] at hx; exact ⟨4, _, hx, by omega, by omega, ver_good r9.2.1 (.inl h1)⟩
      · rw [if_neg h1] at hx
        by_cases h2 : (lastOf l).hi.kind = 2
        · rw [if_pos h2, List.mem_singleton] at hx; exact ⟨3, _, hx, by omega, by omega, ver_good r9.2.1 (.inr h2)⟩
        · rw [if_neg h2] at hx; cases hx
  · obtain ⟨s, hs, rfl⟩ := List.mem_map.1 hx
    obtain ⟨i, hi, hxi⟩ := List.mem_take_iff_getElem.1 hs
    have hlt : i + 1 < l.length := by omega
    have hpx := hc i hlt
    have hx' : l.getD i default = s := by
      rw [List.getD_eq_getElem?_getD, List.getElem?_eq_getElem (by omega)]; exact hxi
    rw [hx'] at hpx
    exact ⟨6, _, rfl, by omega, by omega, ver_good ((cnt_iff _).1 (hn.cnt s (List.mem_of_mem_take hs))).2.1 (.inl ((isPoint_iff _ _).1 hpx).1)⟩
theorem few_kind {k : Int} {l : List Rng} {P : Int → Prop} (h0 : P 0) (hk : P k) (h : ∀ x ∈ l, P x.kind) : P (few k l).kind := by
  revert h
  refine few_cases (fun l => (∀ x ∈ l, P x.kind) → P (few k l).kind) (fun _ => h0) (fun r h => h r (List.mem_singleton.2 rfl)) (fun h2 h => ?_)
  rw [few_more k h2]; exact hk
theorem piece_good {l : List Sp} (hn : Span.Norm l) (hl : l ≠ []) (hc : Chain l) : goodR (pieceR l) 0 = true ∧ Range.opens 10 (pieceR l).kind = 0 := by
  have hv := parts_ver hn hl hc
  unfold pieceR
  by_cases hp : isPoint (l.getD 0 default).lo (l.getD 0 default).hi = true
  · rw [if_pos hp]
    exact ⟨good_ver (by omega) (by omega) (ver_good ((cnt_iff _).1 (hn.cnt _ (getD0_mem hl))).1 (.inl ((isPoint_iff _ _).1 hp).1)) (by omega), opens_ver 10 (by simp [Range.Rng.kind]) (by omega)⟩
  · rw [if_neg hp]
    refine ⟨few_good (.inl rfl) fun x hx => ?_, ?_⟩
    · obtain ⟨k, v, rfl, h1, h2, h3⟩ := hv x hx
      exact ⟨good_ver h1 h2 h3 (by omega), opens_ver 9 h2 (by omega)⟩
    · refine few_kind (P := fun k => Range.opens 10 k = 0) rfl rfl fun x hx => ?_
      obtain ⟨k, v, rfl, h1, h2, h3⟩ := hv x hx
      exact opens_ver 10 h2 (by omega)
theorem norm_append {a b : List Sp} (h : Span.Norm (a ++ b)) : Span.Norm a ∧ Span.Norm b := by
  have hp := List.pairwise_append.1 h.gap
  exact ⟨⟨fun s hs => h.cnt s (List.mem_append_left _ hs), hp.1⟩, ⟨fun s hs => h.cnt s (List.mem_append_right _ hs), hp.2.1⟩⟩
theorem Chain.snoc {l : List Sp} {s : Sp} (h : Chain l) (hl : l ≠ []) (hp : isPoint (lastOf l).hi s.lo = true) : Chain (l ++ [s]) := by
  intro i hi
  have hpos : 0 < l.length := List.length_pos_iff.2 hl
  rw [List.length_append] at hi
  simp only [List.length_singleton] at hi
  by_cases h1 : i + 1 < l.length
  · have := h i h1
    simp only [List.getD_eq_getElem?_getD] at this ⊢
    rw [List.getElem?_append_left (by omega), List.getElem?_append_left (by omega)]
    exact this
  · obtain rfl : i = l.length - 1 := by omega
    have e1 : (l ++ [s]).getD (l.length - 1) default = lastOf l := by
      unfold lastOf
      simp only [List.getD_eq_getElem?_getD]
      rw [List.getElem?_append_left (by omega)]
    have e2 : (l ++ [s]).getD (l.length - 1 + 1) default = s := by
      simp only [List.getD_eq_getElem?_getD]
      rw [show l.length - 1 + 1 = l.length by omega, List.getElem?_append_right (Nat.le_refl _)]
      simp
    rw [e1, e2]; exact hp
theorem Chain.one (s : Sp) : Chain [s] := fun i hi => by simp at hi
/-- The rows are chains, and have all spans, one behind the other. -/
theorem grp_all : ∀ (rest row : List Sp), row ≠ [] → Span.Norm (row ++ rest) → Chain row → (∀ g ∈ grp row rest, g ≠ [] ∧ Span.Norm g ∧ Chain g) ∧ (grp row rest).flatten = row ++ rest
  | [], row, hr, hn, hc => by
    rw [grp]
    refine ⟨fun g hg => ?_, by simp⟩
    rw [List.mem_singleton] at hg; subst hg
    exact ⟨hr, by simpa using hn, hc⟩
  | s :: rest, row, hr, hn, hc => by
    rw [grp]
    by_cases hp : isPoint (lastOf row).hi s.lo = true
    · rw [if_pos hp]
      have h1 := grp_all rest (row ++ [s]) (by simp) (by simpa using hn) (hc.snoc hr hp)
      exact ⟨h1.1, by rw [h1.2]; simp⟩
    · rw [if_neg hp]
      have hs := norm_append hn
      have h1 := grp_all rest [s] (by simp) (by simpa using hs.2) (Chain.one s)
      refine ⟨fun g hg => ?_, by rw [List.flatten_cons, h1.2]; simp⟩
      rcases List.mem_cons.1 hg with rfl | hg
      · exact ⟨hr, hs.1, hc⟩
      · exact h1.1 g hg
theorem plain_good {o : List Sp} (h : Span.Norm o) : goodR (plainR o) 0 = true := by
  unfold plainR
  cases o with
  | nil => decide
  | cons s l =>
    rw [if_neg (by simp)]
    obtain ⟨h1, _⟩ := grp_all l [s] (by simp) h (Chain.one s)
    refine few_good (.inr rfl) fun x hx => ?_
    obtain ⟨g, hg, rfl⟩ := List.mem_map.1 hx
    obtain ⟨a, b, d⟩ := h1 g hg
    exact piece_good b a d

theorem wtL_append : ∀ a b : List Rng, wtL (a ++ b) = wtL a + wtL b
  | [], b => by simp [wtL]
  | x :: a, b => by rw [List.cons_append, Range.wtL_cons, Range.wtL_cons, wtL_append a b]; omega
end Go.Proofs.YtgfbflnhjpbceaaGreatDoor.Nrm

namespace Go.Proofs.YtgfbflnhjpbceaaGreatDoor.Range
open Go.RowKit Num Ident Semver

/-- What a world keeps of another one: each cell that isn't the last number of its block. -/
structure Keep (w w' : World) : Prop where
  size : w.heap.size ≤ w'.heap.size
  cell : ∀ g o v, w.cell? ⟨g, o, none⟩ = some v → ((∀ x, v ≠ .int .i64 x) ∨ (w.cell? ⟨g, o + 1, none⟩).isSome = true) → w'.cell? ⟨g, o, none⟩ = some v
theorem block_lt {w : World} {g o : Nat} {v : Value} (h : w.cell? ⟨g, o, none⟩ = some v) : g < w.heap.size := World.block_lt_of_cell? w _ h
theorem Keep.of_below {w w' : World} (h : Below w.heap.size w w') : Keep w w' :=
  ⟨h.size, fun g o _ hc _ => (h.cell (p := ⟨g, o, none⟩) (block_lt hc)).trans hc⟩

/-- A reader at block b: bytes at A, the place p. -/
structure Rd (w : World) (b : Nat) (A : Option Addr) (n c p : Nat) : Prop where
  lt : b < w.heap.size
  open_ : ∀ o, w.frozen? ⟨b, o, none⟩ = false
  row : w.cell? ⟨b, 0, none⟩ = some (.slice A n c)
  at_ : w.cell? ⟨b, 1, none⟩ = some (.int .i64 (p : Int))
  end_ : w.cell? ⟨b, 2, none⟩ = none
/-- What reading turns: the place in the reader's block. -/
structure Moved (b : Nat) (w w' : World) : Prop where
  os : w'.os = w.os
  tape : w'.tape = w.tape
  output : w'.output = w.output
  size : w.heap.size ≤ w'.heap.size
  block : ∀ k, k < w.heap.size → k ≠ b → w'.heap[k]? = w.heap[k]?
  cell : ∀ o, o ≠ 1 → w'.cell? ⟨b, o, none⟩ = w.cell? ⟨b, o, none⟩
  frozen : ∀ o, w'.frozen? ⟨b, o, none⟩ = w.frozen? ⟨b, o, none⟩
theorem Moved.refl (b : Nat) (w : World) : Moved b w w := ⟨rfl, rfl, rfl, Nat.le_refl _, fun _ _ _ => rfl, fun _ _ => rfl, fun _ => rfl⟩
theorem Moved.trans {b : Nat} {u v w : World} (h : Moved b u v) (k : Moved b v w) : Moved b u w :=
  ⟨k.os.trans h.os, k.tape.trans h.tape, k.output.trans h.output, Nat.le_trans h.size k.size, fun i hi hb => (k.block i (Nat.lt_of_lt_of_le hi h.size) hb).trans (h.block i hi hb), fun o ho => (k.cell o ho).trans (h.cell o ho), fun o => (k.frozen o).trans (h.frozen o)⟩
/-- From the world of the beginning on: what lies below B is left as it was. -/
theorem Moved.below {b B : Nat} {u v w : World} (h : Moved b u v) (k : Below B v w) (hB : u.heap.size ≤ B) (hb : b < u.heap.size) : Moved b u w :=
  ⟨k.os.trans h.os, k.tape.trans h.tape, k.output.trans h.output, Nat.le_trans h.size k.size, fun i hi hne => (k.block i (Nat.lt_of_lt_of_le hi hB)).trans (h.block i hi hne),
    fun o ho => (k.cell (p := ⟨b, o, none⟩) (Nat.lt_of_lt_of_le hb hB)).trans (h.cell o ho), fun o => (k.frozen (p := ⟨b, o, none⟩) (Nat.lt_of_lt_of_le hb hB)).trans (h.frozen o)⟩
theorem Moved.alloc {b : Nat} {u v : World} (h : Moved b u v) (hb : b < u.heap.size) (o : Obj) : Moved b u (v.alloc o) := h.below ((Below.refl _ _).alloc h.size o) (Nat.le_refl _) hb
theorem Moved.set {b : Nat} {u v : World} (h : Moved b u v) (hb : b < u.heap.size) {p : Addr} (hp : u.heap.size ≤ p.block) (x : Value) : Moved b u (v.setCell p x) := h.below ((Below.refl _ _).setCell hp x) (Nat.le_refl _) hb
theorem Moved.below_of {b : Nat} {u v : World} (h : Moved b u v) (hb : b ≤ u.heap.size) : Below b u v := ⟨h.os, h.tape, h.output, h.size, fun k hk => h.block k (by omega) (by omega)⟩
theorem Rd.kept {w w' : World} {b : Nat} {A : Option Addr} {n c p : Nat} (h : Rd w b A n c p) {B : Nat} (k : Below B w w') (hB : b < B) : Rd w' b A n c p :=
  ⟨Nat.lt_of_lt_of_le h.lt k.size, fun o => (k.frozen (p := ⟨b, o, none⟩) hB).trans (h.open_ o), (k.cell (p := ⟨b, 0, none⟩) hB).trans h.row, (k.cell (p := ⟨b, 1, none⟩) hB).trans h.at_, (k.cell (p := ⟨b, 2, none⟩) hB).trans h.end_⟩
theorem Rd.alloc {w : World} {b : Nat} {A : Option Addr} {n c p : Nat} (h : Rd w b A n c p) (o : Obj) : Rd (w.alloc o) b A n c p := h.kept ((Below.refl w.heap.size w).alloc (Nat.le_refl _) o) h.lt
theorem Rd.set {w : World} {b : Nat} {A : Option Addr} {n c p : Nat} (h : Rd w b A n c p) {q : Addr} (hq : b < q.block) (x : Value) : Rd (w.setCell q x) b A n c p := h.kept ((Below.refl (b + 1) w).setCell hq x) (Nat.lt_succ_self _)
/-- The place is set. -/
theorem Rd.move {w : World} {b : Nat} {A : Option Addr} {n c p : Nat} (h : Rd w b A n c p) (q : Nat) : Rd (w.setCell ⟨b, 1, none⟩ (.int .i64 (q : Int))) b A n c q := by
  refine ⟨by simpa using h.lt, fun o => by simp [go_sem, h.open_], ?_, ?_, ?_⟩
  · rw [cell_beside _ _ _ _ _ (by omega)]; exact h.row
  · exact World.cell?_setCell_same _ _ _ h.at_
  · rw [cell_beside _ _ _ _ _ (by omega)]; exact h.end_
theorem Moved.at_ {w : World} {b : Nat} (x : Value) : Moved b w (w.setCell ⟨b, 1, none⟩ x) :=
  ⟨rfl, rfl, rfl, by simp, fun k _ hk => Below.heap_setCell _ _ _ _ hk, fun o ho => cell_beside _ _ _ _ _ (fun e => ho e.symm), fun o => by simp [go_sem]⟩
theorem Moved.move {u w : World} {b : Nat} (h : Moved b u w) (x : Value) : Moved b u (w.setCell ⟨b, 1, none⟩ x) := h.trans (Moved.at_ x)
theorem Rd.keep {w w' : World} {b : Nat} {A : Option Addr} {n c p : Nat} (h : Rd w b A n c p) (k : Moved b w w') : Keep w w' := by
  refine ⟨k.size, fun g o v hc hv => ?_⟩
  by_cases hg : g = b
  · subst hg
    by_cases ho : o = 1
    · subst ho
      rcases hv with hv | hv
      · rw [h.at_] at hc
        injection hc with hc
        exact absurd hc.symm (hv _)
      · rw [h.end_] at hv; cases hv
    · rw [k.cell o ho]; exact hc
  · exact (World.cell?_of_block (w := w) (a := ⟨g, o, none⟩) (k.block g (block_lt hc) hg)).trans hc
theorem Rd.drewN {w : World} {b : Nat} {A : Option Addr} {n c p : Nat} (h : Rd w b A n c p) (k : Nat) : Rd (w.drewN k) b A n c p := ⟨h.lt, h.open_, h.row, h.at_, h.end_⟩
theorem Rd.drew {w : World} {b : Nat} {A : Option Addr} {n c p : Nat} (h : Rd w b A n c p) : Rd w.drew b A n c p := ⟨h.lt, h.open_, h.row, h.at_, h.end_⟩
theorem Moved.drewN {b : Nat} {u w : World} (h : Moved b u w) (k : Nat) : Moved b u (w.drewN k) := ⟨h.os, h.tape, h.output, h.size, h.block, h.cell, h.frozen⟩
theorem Moved.drew {b : Nat} {u w : World} (h : Moved b u w) : Moved b u w.drew := ⟨h.os, h.tape, h.output, h.size, h.block, h.cell, h.frozen⟩
theorem Keep.drew (w : World) : Keep w w.drew := ⟨Nat.le_refl _, fun _ _ _ h _ => h⟩
theorem row_keep {w w' : World} {A : Option Addr} {n : Nat} {l : List UInt8} (h : Row w A n l) (k : Keep w w') : Row w' A n l := by
  refine ⟨h.1, h.2.1, fun h0 => ?_⟩
  obtain ⟨b, o, e, hlt, hc⟩ := h.2.2 h0
  exact ⟨b, o, e, Nat.lt_of_lt_of_le hlt k.size, fun j hj => k.cell _ _ _ (hc j hj) (.inl fun x e => by injection e with e _; cases e)⟩

/-- What a world keeps of another one: all cells of the blocks S. -/
structure KeepS (S : Nat → Prop) (w w' : World) : Prop where
  size : w.heap.size ≤ w'.heap.size
  cell : ∀ g o v, S g → w.cell? ⟨g, o, none⟩ = some v → w'.cell? ⟨g, o, none⟩ = some v
theorem KeepS.of_below {w w' : World} {S : Nat → Prop} (h : Below w.heap.size w w') : KeepS S w w' := ⟨h.size, fun g o _ _ hc => (h.cell (p := ⟨g, o, none⟩) (block_lt hc)).trans hc⟩
theorem KeepS.trans {S : Nat → Prop} {u v w : World} (h : KeepS S u v) (k : KeepS S v w) : KeepS S u w := ⟨Nat.le_trans h.size k.size, fun g o x hg hc => k.cell g o x hg (h.cell g o x hg hc)⟩
theorem KeepS.alloc {S : Nat → Prop} (w : World) (o : Obj) : KeepS S w (w.alloc o) := KeepS.of_below ((Below.refl _ _).alloc (Nat.le_refl _) o)
/-- A store into a block that is none of S. -/
theorem KeepS.set {S : Nat → Prop} {w : World} {g o : Nat} (hg : ¬ S g) (v : Value) : KeepS S w (w.setCell ⟨g, o, none⟩ v) := by
  refine ⟨by simp, fun g' o' x hg' hc => ?_⟩
  rw [World.cell?_setCell_other _ _ _ _ (by intro e; injection e with e _; rw [← e] at hg'; exact hg hg')]; exact hc
theorem KeepS.moved {S : Nat → Prop} {w w' : World} {b : Nat} (k : Moved b w w') (hb : ¬ S b) : KeepS S w w' :=
  ⟨k.size, fun g o _ hg hc => (World.cell?_of_block (w := w) (a := ⟨g, o, none⟩) (k.block g (block_lt hc) (fun e => hb (e ▸ hg)))).trans hc⟩
theorem KeepS.grown {S : Nat → Prop} {w w' : World} {row : Option Nat} (k : w.grownBy w' row) (hb : ∀ g, S g → some g ≠ row) : KeepS S w w' :=
  ⟨k.size, fun g o _ hg hc => (World.cell?_of_block (w := w) (a := ⟨g, o, none⟩) (k.block g (block_lt hc) (hb g hg))).trans hc⟩
/-- The slice lies in a block of S, if there is something in it. -/
def InS (S : Nat → Prop) (A : Option Addr) (n : Nat) : Prop := 0 < n → ∃ b o, A = some ⟨b, o, none⟩ ∧ S b
theorem InS.none_ (S : Nat → Prop) (A : Option Addr) : InS S A 0 := fun h => absurd h (Nat.lt_irrefl _)
theorem srow_keepS {w w' : World} {S : Nat → Prop} {A : Option Addr} {n : Nat} {xs : List (List UInt8)} (h : SRow w A n xs) (k : KeepS S w w') (hs : InS S A n) : SRow w' A n xs := by
  refine ⟨h.1, fun h0 => ?_⟩
  obtain ⟨b, o, e, hlt, hc⟩ := h.2 h0
  obtain ⟨b', o', e', hb⟩ := hs h0
  rw [e] at e'
  injection e' with e'
  injection e' with e1 e2
  subst e1
  exact ⟨b, o, e, Nat.lt_of_lt_of_le hlt k.size, fun j hj => k.cell _ _ _ hb (hc j hj)⟩
theorem InS.mono {S S' : Nat → Prop} {w : World} {A : Option Addr} {n : Nat} {xs : List (List UInt8)} (h : InS S A n) (hr : SRow w A n xs) (hS : ∀ b, S b → b < w.heap.size → S' b) : InS S' A n := fun h0 => by
  obtain ⟨b, o, e, hb⟩ := h h0
  obtain ⟨b', o', e', hlt, _⟩ := hr.2 h0
  rw [e] at e'
  injection e' with e'
  injection e' with e1 e2
  subst e1
  exact ⟨b, o, e, hS b hb hlt⟩
/-- A version's numbers, rows and identifiers are of sizes that the form allows. -/
structure FitV (v : Ver) : Prop where
  a : v.a < 18446744073709551616
  b : v.b < 18446744073709551616
  c : v.c < 18446744073709551616
  pre : v.pre.length ≤ maxLen
  build : v.build.length ≤ maxLen
  pres : ∀ x ∈ v.pre, x.length ≤ maxLen
  builds : ∀ x ∈ v.build, x.length ≤ maxLen
theorem FitV.none : FitV noVer := ⟨by decide, by decide, by decide, Nat.zero_le _, Nat.zero_le _, (fun x h => by cases h), (fun x h => by cases h)⟩
/-- A range in memory: its kind and version, where the rows lie, how many ranges there are, and where they lie. -/
structure RV where
  kind : Int
  v : Ver
  A : Option Addr
  c : Nat
  B : Option Addr
  d : Nat
  L : Option Addr
  n : Nat
  e : Nat
instance : Inhabited RV := ⟨⟨0, noVer, none, 0, none, 0, none, 0, 0⟩⟩
def RV.vals (x : RV) : List Value := [.int .i64 x.kind, .int .u64 (x.v.a : Int), .int .u64 (x.v.b : Int), .int .u64 (x.v.c : Int), .slice x.A x.v.pre.length x.c, .slice x.B x.v.build.length x.d, .slice x.L x.n x.e]
theorem rv_len (x : RV) : x.vals.length = 7 := rfl
theorem rv_one (x : RV) : ∀ u ∈ x.vals, u.oneCell' = true := by
  intro u hu; simp only [RV.vals, List.mem_cons, List.mem_nil_iff, or_false] at hu
  rcases hu with rfl | rfl | rfl | rfl | rfl | rfl | rfl <;> rfl
/-- Seven cells of a block. -/
def CellsAt (w : World) (b o : Nat) (x : RV) : Prop := ∀ i u, x.vals[i]? = some u → w.cell? ⟨b, o + i, none⟩ = some u
theorem CellsAt.keep {w w' : World} {S : Nat → Prop} {b o : Nat} {x : RV} (h : CellsAt w b o x) (k : KeepS S w w') (hb : S b) : CellsAt w' b o x := fun i u hu => k.cell _ _ _ hb (h i u hu)
theorem CellsAt.lt {w : World} {b o : Nat} {x : RV} (h : CellsAt w b o x) : b < w.heap.size := block_lt (h 0 _ rfl)
/-- What a range in memory reads as; all that it has lies in the blocks S. -/
inductive Lies (w : World) (S : Nat → Prop) : Rng → RV → Prop
  | mk (x : RV) (l : List Rng) (f : Nat → RV) (hn : x.n = l.length) (he : x.n ≤ x.e) (pre : SRow w x.A x.v.pre.length x.v.pre) (build : SRow w x.B x.v.build.length x.v.build) (ip : InS S x.A x.v.pre.length) (ib : InS S x.B x.v.build.length) (cp : x.v.pre.length ≤ x.c) (cb : x.v.build.length ≤ x.d)
      (fit : FitV x.v) (nil : x.L = none → x.e = 0)
      (cells : 0 < x.n → ∃ b o, x.L = some ⟨b, o, none⟩ ∧ S b ∧ ∀ j, j < x.n → CellsAt w b (o + j * 7) (f j)) (subs : ∀ j, j < x.n → Lies w S (l.getD j noRng) (f j)) : Lies w S (.mk x.kind x.v l) x
theorem Lies.keep {w w' : World} {S : Nat → Prop} {r : Rng} {x : RV} (h : Lies w S r x) (k : KeepS S w w') : Lies w' S r x := by
  induction h with
  | mk x l f hn he pre build ip ib cp cb fit nil cells _ ih =>
    refine Lies.mk x l f hn he (srow_keepS pre k ip) (srow_keepS build k ib) ip ib cp cb fit nil (fun h0 => ?_) ih
    obtain ⟨b, o, e, hb, hc⟩ := cells h0
    exact ⟨b, o, e, hb, fun j hj => (hc j hj).keep k hb⟩
theorem Lies.mono {w : World} {S S' : Nat → Prop} {r : Rng} {x : RV} (h : Lies w S r x) (hS : ∀ b, S b → b < w.heap.size → S' b) : Lies w S' r x := by
  induction h with
  | mk x l f hn he pre build ip ib cp cb fit nil cells _ ih =>
    refine Lies.mk x l f hn he pre build (ip.mono pre hS) (ib.mono build hS) cp cb fit nil (fun h0 => ?_) ih
    obtain ⟨b, o, e, hb, hc⟩ := cells h0
    exact ⟨b, o, e, hS b hb (hc 0 h0).lt, hc⟩
/-- A slice of ranges reads as a list of them. -/
def RgRow (w : World) (S : Nat → Prop) (L : Option Addr) (n : Nat) (l : List Rng) : Prop :=
  ∃ f : Nat → RV, l.length = n ∧ (0 < n → ∃ b o, L = some ⟨b, o, none⟩ ∧ S b ∧ ∀ j, j < n → CellsAt w b (o + j * 7) (f j)) ∧ ∀ j, j < n → Lies w S (l.getD j noRng) (f j)
theorem RgRow.keep {w w' : World} {S : Nat → Prop} {L : Option Addr} {n : Nat} {l : List Rng} (h : RgRow w S L n l) (k : KeepS S w w') : RgRow w' S L n l := by
  obtain ⟨f, h1, h2, h3⟩ := h
  refine ⟨f, h1, fun h0 => ?_, fun j hj => (h3 j hj).keep k⟩
  obtain ⟨b, o, e, hb, hc⟩ := h2 h0
  exact ⟨b, o, e, hb, fun j hj => (hc j hj).keep k hb⟩
/-- What Lies says. -/
structure Says (w : World) (S : Nat → Prop) (r : Rng) (x : RV) : Prop where
  kind : r.kind = x.kind
  ver : r.ver = x.v
  pre : SRow w x.A x.v.pre.length x.v.pre
  build : SRow w x.B x.v.build.length x.v.build
  ip : InS S x.A x.v.pre.length
  ib : InS S x.B x.v.build.length
  cp : x.v.pre.length ≤ x.c
  cb : x.v.build.length ≤ x.d
  fit : FitV x.v
  nil : x.L = none → x.e = 0
  cap : x.n ≤ x.e
  subs : RgRow w S x.L x.n r.subs
theorem Lies.says {w : World} {S : Nat → Prop} {r : Rng} {x : RV} (h : Lies w S r x) : Says w S r x := by
  cases h with
  | mk x l f hn he pre build ip ib cp cb fit nil cells subs => exact ⟨rfl, rfl, pre, build, ip, ib, cp, cb, fit, nil, he, ⟨f, hn.symm, cells, subs⟩⟩
/-- A version's range. -/
theorem Lies.version {w : World} {S : Nat → Prop} (kind : Int) (v : Ver) (A : Option Addr) (c : Nat) (B : Option Addr) (d : Nat) (pre : SRow w A v.pre.length v.pre) (build : SRow w B v.build.length v.build) (ip : InS S A v.pre.length) (ib : InS S B v.build.length) (cp : v.pre.length ≤ c) (cb : v.build.length ≤ d) (fit : FitV v) :
    Lies w S (.mk kind v []) ⟨kind, v, A, c, B, d, none, 0, 0⟩ :=
  Lies.mk ⟨kind, v, A, c, B, d, none, 0, 0⟩ [] (fun _ => default) rfl (Nat.le_refl _) pre build ip ib cp cb fit (fun _ => rfl) (fun h => absurd h (Nat.lt_irrefl _)) (fun _ hj => absurd hj (Nat.not_lt_zero _))
def zeroRV (kind : Int) : RV := ⟨kind, noVer, none, 0, none, 0, none, 0, 0⟩
theorem Lies.zero (w : World) (S : Nat → Prop) (kind : Int) : Lies w S (.mk kind noVer []) (zeroRV kind) :=
  Lies.version kind noVer none 0 none 0 (SRow.none_ _ _) (SRow.none_ _ _) (InS.none_ _ _) (InS.none_ _ _) (Nat.le_refl _) (Nat.le_refl _) FitV.none
/-- A range of ranges. -/
theorem Lies.many {w : World} {S : Nat → Prop} (kind : Int) {L : Option Addr} {n e : Nat} {l : List Rng} (h : RgRow w S L n l) (he : n ≤ e) (nil : L = none → e = 0) : Lies w S (.mk kind noVer l) ⟨kind, noVer, none, 0, none, 0, L, n, e⟩ := by
  obtain ⟨f, h1, h2, h3⟩ := h
  exact Lies.mk ⟨kind, noVer, none, 0, none, 0, L, n, e⟩ l f h1.symm he (SRow.none_ _ _) (SRow.none_ _ _) (InS.none_ _ _) (InS.none_ _ _) (Nat.le_refl _) (Nat.le_refl _) FitV.none nil h2 h3
/-- A range as a value. -/
def RV.agg (x : RV) : Value := .agg #[.int .i64 x.kind, .int .u64 (x.v.a : Int), .int .u64 (x.v.b : Int), .int .u64 (x.v.c : Int), .slice x.A x.v.pre.length x.c, .slice x.B x.v.build.length x.d, .slice x.L x.n x.e]
theorem CellsAt.cells {w : World} {b o : Nat} {x : RV} (h : CellsAt w b o x) : w.cell? ⟨b, o, none⟩ = some (.int .i64 x.kind) ∧ w.cell? ⟨b, o + 1, none⟩ = some (.int .u64 (x.v.a : Int)) ∧ w.cell? ⟨b, o + 2, none⟩ = some (.int .u64 (x.v.b : Int)) ∧ w.cell? ⟨b, o + 3, none⟩ = some (.int .u64 (x.v.c : Int)) ∧ w.cell? ⟨b, o + 4, none⟩ = some (.slice x.A x.v.pre.length x.c) ∧ w.cell? ⟨b, o + 5, none⟩ = some (.slice x.B x.v.build.length x.d) ∧ w.cell? ⟨b, o + 6, none⟩ = some (.slice x.L x.n x.e) :=
  ⟨h 0 _ rfl, h 1 _ rfl, h 2 _ rfl, h 3 _ rfl, h 4 _ rfl, h 5 _ rfl, h 6 _ rfl⟩
theorem CellsAt.of {w : World} {b o : Nat} {x : RV} (c0 : w.cell? ⟨b, o, none⟩ = some (.int .i64 x.kind)) (c1 : w.cell? ⟨b, o + 1, none⟩ = some (.int .u64 (x.v.a : Int))) (c2 : w.cell? ⟨b, o + 2, none⟩ = some (.int .u64 (x.v.b : Int))) (c3 : w.cell? ⟨b, o + 3, none⟩ = some (.int .u64 (x.v.c : Int))) (c4 : w.cell? ⟨b, o + 4, none⟩ = some (.slice x.A x.v.pre.length x.c)) (c5 : w.cell? ⟨b, o + 5, none⟩ = some (.slice x.B x.v.build.length x.d)) (c6 : w.cell? ⟨b, o + 6, none⟩ = some (.slice x.L x.n x.e)) : CellsAt w b o x := by
  intro i u hu
  have hi : i < 7 := (List.getElem?_eq_some_iff.1 hu).1
  have e : ∀ v, x.vals[i]? = some v → v = u := fun v hv => by rw [hv] at hu; injection hu
  match i, hi with
  | 0, _ => rw [← e _ rfl]; exact c0
  | 1, _ => rw [← e _ rfl]; exact c1
  | 2, _ => rw [← e _ rfl]; exact c2
  | 3, _ => rw [← e _ rfl]; exact c3
  | 4, _ => rw [← e _ rfl]; exact c4
  | 5, _ => rw [← e _ rfl]; exact c5
  | 6, _ => rw [← e _ rfl]; exact c6
/-- A slice of ranges that the call itself made. -/
theorem RgRow.of_own {w : World} {S : Nat → Prop} {base : Nat} {v : Value} {n : Nat} {xs : List RV} {l : List Rng} (h : w.ownsRow base 28 7 v n (xs.flatMap RV.vals)) (hB : ∀ g, base ≤ g → S g) (hx : xs.length = n) (hl : l.length = n) (hs : ∀ j, j < n → Lies w S (l.getD j noRng) (xs.getD j default)) :
    ∃ L e, v = .slice L n e ∧ n ≤ e ∧ (L = none → e = 0) ∧ RgRow w S L n l := by
  obtain ⟨L, e, h1, h2, h3, h4⟩ := own_cells rv_len h hx
  refine ⟨L, e, h1, h2, h3, fun j => xs.getD j default, hl, fun h0 => ?_, hs⟩
  obtain ⟨g, e1, hg, _, _, hc⟩ := h4 h0
  exact ⟨g, 0, e1, hB g hg, fun j hj i u hu => hc j hj i u hu⟩
/-- The length of a text whose place is p. -/
structure Pl (l : List UInt8) (p : Nat) (s : List UInt8) : Prop where
  le : p ≤ l.length
  eq : s = l.drop p
theorem Pl.len {l s : List UInt8} {p : Nat} (h : Pl l p s) : s.length = l.length - p := by rw [h.eq, List.length_drop]
theorem Pl.drop {l s : List UInt8} {p k : Nat} (h : Pl l p s) (hk : p + k ≤ l.length) : Pl l (p + k) (s.drop k) := ⟨hk, by rw [h.eq, List.drop_drop]⟩
/-- A block of a range, none of its cells frozen. -/
def RAt (W : World) (g : Nat) (x : RV) : Prop := At7 W g (.int .i64 x.kind) (.int .u64 (x.v.a : Int)) (.int .u64 (x.v.b : Int)) (.int .u64 (x.v.c : Int)) (.slice x.A x.v.pre.length x.c) (.slice x.B x.v.build.length x.d) (.slice x.L x.n x.e)
theorem RAt.new (w : World) (t : TypeId) (x : RV) : RAt (w.alloc (.cells #[.int .i64 x.kind, .int .u64 (x.v.a : Int), .int .u64 (x.v.b : Int), .int .u64 (x.v.c : Int), .slice x.A x.v.pre.length x.c, .slice x.B x.v.build.length x.d, .slice x.L x.n x.e] t)) w.heap.size x := At7.new w t _ _ _ _ _ _ _
theorem RAt.kept {W W' : World} {g B : Nat} {x : RV} (h : RAt W g x) (hb : Below B W W') (hB : g < B) : RAt W' g x := At7.kept h hb hB
theorem At7.moved {W W' : World} {b B : Nat} {u0 u1 u2 u3 u4 u5 u6 : Value} (h : At7 W B u0 u1 u2 u3 u4 u5 u6) (hm : Moved b W W') (hne : B ≠ b) : At7 W' B u0 u1 u2 u3 u4 u5 u6 := by
  obtain ⟨h1, h2, c0, c1, c2, c3, c4, c5, c6⟩ := h
  have k := hm.block B h1 hne
  have kc : ∀ o, W'.cell? ⟨B, o, none⟩ = W.cell? ⟨B, o, none⟩ := fun o => World.cell?_of_block (w := W) (a := ⟨B, o, none⟩) k
  exact ⟨Nat.lt_of_lt_of_le h1 hm.size, fun o => (World.frozen?_of_block (w := W) (a := ⟨B, o, none⟩) k).trans (h2 o), (kc 0).trans c0, (kc 1).trans c1, (kc 2).trans c2, (kc 3).trans c3, (kc 4).trans c4, (kc 5).trans c5, (kc 6).trans c6⟩
theorem RAt.moved {W W' : World} {b g : Nat} {x : RV} (h : RAt W g x) (hm : Moved b W W') (hne : g ≠ b) : RAt W' g x := At7.moved h hm hne
theorem At7.grown {w w' : World} {row : Option Nat} {g : Nat} {u0 u1 u2 u3 u4 u5 u6 : Value} (h : At7 w g u0 u1 u2 u3 u4 u5 u6) (hg : w.grownBy w' row) (hne : some g ≠ row) : At7 w' g u0 u1 u2 u3 u4 u5 u6 := by
  obtain ⟨h1, h2, c0, c1, c2, c3, c4, c5, c6⟩ := h
  have k := hg.block g h1 hne
  have kc : ∀ o, w'.cell? ⟨g, o, none⟩ = w.cell? ⟨g, o, none⟩ := fun o => World.cell?_of_block (w := w) (a := ⟨g, o, none⟩) k
  exact ⟨Nat.lt_of_lt_of_le h1 hg.size, fun o => (World.frozen?_of_block (w := w) (a := ⟨g, o, none⟩) k).trans (h2 o), (kc 0).trans c0, (kc 1).trans c1, (kc 2).trans c2, (kc 3).trans c3, (kc 4).trans c4, (kc 5).trans c5, (kc 6).trans c6⟩
theorem RAt.grown {w w' : World} {row : Option Nat} {g : Nat} {x : RV} (h : RAt w g x) (hg : w.grownBy w' row) (hne : some g ≠ row) : RAt w' g x := At7.grown h hg hne
theorem Rd.grown {w w' : World} {row : Option Nat} {b : Nat} {A : Option Addr} {n c p : Nat} (h : Rd w b A n c p) (hg : w.grownBy w' row) (hne : some b ≠ row) : Rd w' b A n c p := by
  have k := hg.block b h.lt hne
  have kc : ∀ o, w'.cell? ⟨b, o, none⟩ = w.cell? ⟨b, o, none⟩ := fun o => World.cell?_of_block (w := w) (a := ⟨b, o, none⟩) k
  exact ⟨Nat.lt_of_lt_of_le h.lt hg.size, fun o => (World.frozen?_of_block (w := w) (a := ⟨b, o, none⟩) k).trans (h.open_ o), (kc 0).trans h.row, (kc 1).trans h.at_, (kc 2).trans h.end_⟩
theorem Moved.grown {u w w' : World} {row : Option Nat} {b : Nat} (h : Moved b u w) (hg : w.grownBy w' row) (hb : b < u.heap.size) (hr : ∀ g, row = some g → u.heap.size ≤ g) : Moved b u w' :=
  h.below ((Below.refl _ _).grown hg h.size hr) (Nat.le_refl _) hb
/-- A range is stored into a block. -/
def setR (W : World) (g : Nat) (x : RV) : World := (((((((W.setCell ⟨g, 0, none⟩ (.int .i64 x.kind)).setCell ⟨g, 1, none⟩ (.int .u64 (x.v.a : Int))).setCell ⟨g, 2, none⟩ (.int .u64 (x.v.b : Int))).setCell ⟨g, 3, none⟩ (.int .u64 (x.v.c : Int))).setCell ⟨g, 4, none⟩ (.slice x.A x.v.pre.length x.c)).setCell ⟨g, 5, none⟩ (.slice x.B x.v.build.length x.d)).setCell ⟨g, 6, none⟩ (.slice x.L x.n x.e))
theorem setR_at {W : World} {g : Nat} {x y : RV} (h : RAt W g y) : RAt (setR W g x) g x := by
  obtain ⟨h1, h2, c0, c1, c2, c3, c4, c5, c6⟩ := h
  unfold setR
  refine ⟨by simpa using h1, fun o => by simp [go_sem, h2], ?_, ?_, ?_, ?_, ?_, ?_, ?_⟩ <;> simp [go_sem, c0, c1, c2, c3, c4, c5, c6]
theorem setR_below {W : World} {g : Nat} (B : Nat) (hB : B ≤ g) (x : RV) : Below B W (setR W g x) := by
  unfold setR
  exact ((((((((Below.refl B W).setCell (p := ⟨g, 0, none⟩) hB _).setCell (p := ⟨g, 1, none⟩) hB _).setCell (p := ⟨g, 2, none⟩) hB _).setCell (p := ⟨g, 3, none⟩) hB _).setCell (p := ⟨g, 4, none⟩) hB _).setCell (p := ⟨g, 5, none⟩) hB _).setCell (p := ⟨g, 6, none⟩) hB _)
theorem setR_rd {W : World} {g b : Nat} {A : Option Addr} {n c p : Nat} (h : Rd W b A n c p) (hb : b < g) (x : RV) : Rd (setR W g x) b A n c p := h.kept (setR_below g (Nat.le_refl _) x) hb
theorem setR_moved {W u : World} {g b : Nat} (h : Moved b u W) (hb : b < u.heap.size) (hg : u.heap.size ≤ g) (x : RV) : Moved b u (setR W g x) := h.below (setR_below g (Nat.le_refl _) x) hg hb
theorem setR_keep {W : World} {g : Nat} {S : Nat → Prop} (hg : ¬ S g) (x : RV) : KeepS S W (setR W g x) := by
  unfold setR
  exact (KeepS.set hg _).trans ((KeepS.set hg _).trans ((KeepS.set hg _).trans ((KeepS.set hg _).trans ((KeepS.set hg _).trans ((KeepS.set hg _).trans (KeepS.set hg _))))))
/-- The blocks from B on. -/
def From (B : Nat) (g : Nat) : Prop := B ≤ g
/-- What a part's reader leaves. -/
def RgPost (b : Nat) (A : Option Addr) (n c : Nat) (l : List UInt8) (w : World) (t : Out) (e : Ending) (w' : World) : Prop :=
  ∃ (x : RV) (q : Nat), e = .returned (.tuple #[x.agg, .int .i64 (t.1 : Int)]) ∧ Lies w' (From w.heap.size) t.2.2 x ∧ Pl l q t.2.1 ∧ Rd w' b A n c q ∧ Moved b w w'
theorem Lies.from_ {w : World} {B B' : Nat} {r : Rng} {x : RV} (h : Lies w (From B) r x) (hB : B' ≤ B) : Lies w (From B') r x := h.mono fun _ hb _ => Nat.le_trans hB hb
/-- A reader's end: the result is stored into the block that it made first. -/
theorem rg_end {b : Nat} {A : Option Addr} {n c : Nat} {l : List UInt8} {w W : World} {f : Nat} {s : List UInt8} {r : Rng} {x : RV} {q : Nat} (hb : b < w.heap.size) (hL : Lies W (From (w.heap.size + 1)) r x) (hP : Pl l q s) (hR : Rd W b A n c q) (hM : Moved b w W) :
    RgPost b A n c l w (f, s, r) (.returned (.tuple #[x.agg, .int .i64 (f : Int)])) (setR W w.heap.size x) :=
  ⟨x, q, rfl, (hL.keep (setR_keep (Nat.not_succ_le_self _) x)).from_ (Nat.le_succ _), hP, setR_rd hR hb x, setR_moved hM hb (Nat.le_refl _) x⟩
end Go.Proofs.YtgfbflnhjpbceaaGreatDoor.Range

namespace Go.Proofs.YtgfbflnhjpbceaaGreatDoor.Range
open Go.RowKit Num Ident Semver

def PsJ (w : World) (b : Nat) (A : Option Addr) (n c k : Nat) (l s : List UInt8) (a' : Act) (w' : World) : Prop :=
  ∃ (q : Nat) (t : List UInt8) (u2 u3 u4 u5 u6 u7 u8 u9 u10 u11 u12 u13 u14 u15 u16 u17 u18 u19 u20 u21 u22 u23 u24 u25 u26 u27 u28 u29 u30 u31 u32 u33 u34 u35 u36 u37 u38 u39 u40 u41 u42 u43 u44 u45 u46 u47 u48 u49 u50 u51 u52 u53 u54 : Value), Rd w' b A n c q ∧ Pl l q t ∧ blanks t = s ∧ Moved b w w' ∧
    a' = { tmps := #[.pointer (some ⟨b, 0, none⟩), .int .i64 (k : Int), u2, u3, u4, u5, u6, u7, u8, u9, u10, u11, u12, u13, u14, u15, u16, u17, u18, u19, u20, u21, u22, u23, u24, u25, u26, u27, u28, u29, u30, u31, u32, u33, u34, u35, u36, u37, u38, u39, u40, u41, u42, u43, u44, u45, u46, u47, u48, u49, u50, u51, u52, u53, u54], defers := [] }
def PsM (b n : Nat) (_ : Act) (w' : World) : Nat := n - (intOf ((w'.cell? ⟨b, 1, none⟩).getD undef)).toNat
theorem pl_next {l t : List UInt8} {q : Nat} (h : Pl l q t) (hq : q < l.length) : t = l.getD q 0 :: l.drop (q + 1) := by rw [h.eq, drop_getD l q hq]
theorem blank_at {l : List UInt8} {q : Nat} (h : byteAt l q = 32 ∨ byteAt l q = 9) : blankB (l.getD q 0) = true := by
  unfold byteAt at h
  have e : l.getD q 0 = 32 ∨ l.getD q 0 = 9 := by
    rcases h with h | h
    · left; exact UInt8.toNat_inj.1 (show (l.getD q 0).toNat = 32 by omega)
    · right; exact UInt8.toNat_inj.1 (show (l.getD q 0).toNat = 9 by omega)
  unfold blankB
  rcases e with e | e <;> rw [e] <;> decide
theorem blank_not {l : List UInt8} {q : Nat} (h1 : byteAt l q ≠ 32) (h2 : byteAt l q ≠ 9) : blankB (l.getD q 0) = false := by
  unfold byteAt at h1 h2
  unfold blankB
  have e1 : l.getD q 0 ≠ 32 := fun e => h1 (by rw [e]; rfl)
  have e2 : l.getD q 0 ≠ 9 := fun e => h2 (by rw [e]; rfl)
  rw [beq_eq_false_iff_ne.2 e1, beq_eq_false_iff_ne.2 e2]; rfl
theorem psM_less {w w' : World} {b n c c' p q : Nat} {A A' : Option Addr} {a a' : Act} (h' : Rd w' b A' n c' q) (h : Rd w b A n c p) (hl : p < q ∧ p < n) : PsM b n a' w' < PsM b n a w := by
  unfold PsM
  rw [h'.at_, h.at_]
  simp only [Option.getD_some, intOf]
  omega
set_option maxRecDepth 100000 in
set_option maxHeartbeats 3200000 in
theorem pass_any (b : Nat) (A : Option Addr) (n c p k : Nat) (l s : List UInt8) (w : World) (hR : Rd w b A n c p) (hr : Row w A n l) (hs : Pl l p s) (hk : p + k ≤ n) :
    Calls Tryz.prog 87 #[.pointer (some ⟨b, 0, none⟩), .int .i64 (k : Int)] w fun e w' => e = .returned (.tuple #[]) ∧ ∃ q, Pl l q (blanks (s.drop k)) ∧ Rd w' b A n c q ∧ Moved b w w' := by
  have hm := hr.2.1
  unfold maxLen at hm
  have HL := Lib.hid hr.1
  have HR := Lib.hid hR
  have HRow := Lib.hid hr
  have HS := Lib.hid hs
  obtain ⟨hlt, hfr, hx0, hx1, _⟩ := hR
  clear hr hs
  go_enter Tryz.func87, Tryz.ntmps87
  go_wp2
  refine wp_scope_back 0 (PsJ w b A n c k l (blanks (s.drop k))) (PsM b n) rfl ?_ ?_
  · rintro a' w1 ⟨q, t, u2, u3, u4, u5, u6, u7, u8, u9, u10, u11, u12, u13, u14, u15, u16, u17, u18, u19, u20, u21, u22, u23, u24, u25, u26, u27, u28, u29, u30, u31, u32, u33, u34, u35, u36, u37, u38, u39, u40, u41, u42, u43, u44, u45, u46, u47, u48, u49, u50, u51, u52, u53, u54, hR1, hp1, hb1, hm1, rfl⟩
    have HK := Lib.hid (HR.out.keep hm1)
    have HRow1 := Lib.hid (row_keep HRow.out HK.out)
    have HP1 := Lib.hid hp1
    have HB1 := Lib.hid hb1
    have HM1 := Lib.hid hm1
    have HR1 := Lib.hid hR1
    have hqn : q ≤ n := by have := hp1.le; rw [HL.out] at this; exact this
    clear hp1 hb1 hm1 hlt hfr hx0 hx1
    obtain ⟨hlt, hfr, hx0, hx1, _⟩ := hR1
    by_cases h1 : q < n
    · obtain ⟨g, o, rfl, hg, hcell⟩ := HRow1.out.2.2 (by omega)
      have hx := hcell q h1
      have HBl := Lib.hid (blank_at (l := l) (q := q))
      have HBn := Lib.hid (blank_not (l := l) (q := q))
      have HT := Lib.hid (pl_next HP1.out (by rw [HL.out]; exact h1))
      have hbd := byteAt_bd l q
      clear hcell
      generalize byteAt l q = x at hx HBl HBn hbd
      have hk1 : (q : Int) < (n : Int) := by omega
      have HNext : Hid (blankB (l.getD q 0) = true → blanks (l.drop (q + 1)) = blanks (s.drop k)) := fun hb => by rw [← HB1.out, HT.out, blanks_yes _ hb]
      have HEnd : Hid (blankB (l.getD q 0) = false → t = blanks (s.drop k)) := fun hb => by rw [← HB1.out, HT.out, blanks_no _ hb]
      have HPn : Hid (Pl l (q + 1) (l.drop (q + 1))) := ⟨by rw [HL.out]; omega, rfl⟩
      by_cases h32 : x = 32
      · have HBL := Lib.hid (HBl.out (.inl h32))
        have hb2 : (x == 32) = true := by simp [h32]
        clear h32 HBl HBn
        go_wp2_with fail
        go_quiet (fail)
        go_wp2
        go_step3
        refine ⟨rfl, ⟨q + 1, l.drop (q + 1), _, _, _, _, _, _, _, _, _, _, _, _, _, _, _, _, _, _, _, _, _, _, _, _, _, _, _, _, _, _, _, _, _, _, _, _, _, _, _, _, _, _, _, _, _, _, _, _, _, _, _, _, _, (HR1.out.drewN _).move (q + 1), HPn.out, HNext.out HBL.out, (HM1.out.drewN _).move _, rfl⟩, ?_⟩
        exact psM_less ((HR1.out.drewN _).move (q + 1)) HR1.out (by omega)
      · have hb2 : (x == 32) = false := by simp [h32]
        by_cases h9 : x = 9
        · have HBL := Lib.hid (HBl.out (.inr h9))
          have hb3 : (x == 9) = true := by simp [h9]
          clear h32 h9 HBl HBn
          go_wp2_with fail
          go_quiet (fail)
          go_wp2
          go_step3
          refine ⟨rfl, ⟨q + 1, l.drop (q + 1), _, _, _, _, _, _, _, _, _, _, _, _, _, _, _, _, _, _, _, _, _, _, _, _, _, _, _, _, _, _, _, _, _, _, _, _, _, _, _, _, _, _, _, _, _, _, _, _, _, _, _, _, _, (HR1.out.drewN _).move (q + 1), HPn.out, HNext.out HBL.out, (HM1.out.drewN _).move _, rfl⟩, ?_⟩
          exact psM_less ((HR1.out.drewN _).move (q + 1)) HR1.out (by omega)
        · have HBN := Lib.hid (HBn.out h32 h9)
          have hb3 : (x == 9) = false := by simp [h9]
          clear h32 h9 HBl HBn
          go_wp2_with fail
          go_quiet (fail)
          go_wp2
          simp only [Exit.jump]
          go_end0
          exact ⟨rfl, q, HEnd.out HBN.out ▸ HP1.out, HR1.out.drewN _, HM1.out.drewN _⟩
    · have hk1 : decide ((q : Int) < (n : Int)) = false := by simp; omega
      have HEnd : Hid (t = blanks (s.drop k)) := by
        have e : t = [] := by rw [HP1.out.eq]; exact List.drop_eq_nil_of_le (by rw [HL.out]; omega)
        unfold Hid; rw [← HB1.out, e]; rfl
      go_wp2_with fail
      go_quiet (fail)
      go_wp2
      simp only [Exit.jump]
      go_end0
      exact ⟨rfl, q, HEnd.out ▸ HP1.out, HR1.out.drewN _, HM1.out.drewN _⟩
  · intro HP
    go_wp2
    go_step3
    rename_i hK
    exact hK _ _ (HP.out _ _ ⟨p + k, s.drop k, _, _, _, _, _, _, _, _, _, _, _, _, _, _, _, _, _, _, _, _, _, _, _, _, _, _, _, _, _, _, _, _, _, _, _, _, _, _, _, _, _, _, _, _, _, _, _, _, _, _, _, _, _, HR.out.move (p + k), HS.out.drop (by rw [HL.out]; exact hk), rfl, Moved.at_ _, rfl⟩)
end Go.Proofs.YtgfbflnhjpbceaaGreatDoor.Range

namespace Go.Proofs.YtgfbflnhjpbceaaGreatDoor.Range
open Go.RowKit Num Ident Semver

/-- Bytes as numbers. -/
def nums (l : List UInt8) : List Int := l.map fun b => (b.toNat : Int)
theorem nums_len (l : List UInt8) : (nums l).length = l.length := by simp [nums]
theorem nums_back (l : List UInt8) : Lib.bytesOf (nums l) = l := by
  unfold Lib.bytesOf nums
  rw [List.map_map]
  have : ((fun n : Int => UInt8.ofNat n.toNat) ∘ fun b : UInt8 => (b.toNat : Int)) = id := by funext b; simp
  rw [this, List.map_id]
theorem bytes_in {w : World} {A : Option Addr} {n : Nat} {l : List UInt8} (h : Row w A n l) : Lib.BytesIn w A n (nums l) := by
  intro h0
  obtain ⟨b, o, e, _, hc⟩ := h.2.2 h0
  refine ⟨b, o, e, fun i hi => ?_⟩
  rw [hc i hi]
  have hl : i < l.length := by rw [h.1]; exact hi
  unfold byteAt nums
  simp [List.getD, List.getElem?_eq_getElem hl]
theorem has_any (A B : Option Addr) (n c m d : Nat) (l t : List UInt8) (w : World) (h : Row w A n l) (k : Row w B m t) (hc : n ≤ c) :
    Calls Tryz.prog 162 #[.slice A n c, .slice B m d] w fun e w' => e = .returned (.bool (stands t l)) ∧ w' = w := by
  have := Tryz.bytes_HasPrefix_all A B n c m d (nums l) (nums t) w (by rw [nums_len, h.1]) (by rw [nums_len, k.1]) hc (bytes_in h) (bytes_in k)
  rw [nums_back, nums_back] at this
  exact this
theorem index_mem (l : List UInt8) (c : UInt8) : 0 ≤ Lib.indexByte l c ↔ c ∈ l := by
  induction l with
  | nil => simp [Lib.indexByte]
  | cons b l ih =>
    have hg := Lib.indexByte_ge l c
    unfold Lib.indexByte
    by_cases hb : b = c
    · subst hb; simp
    · have h1 : (b == c) = false := beq_eq_false_iff_ne.2 hb
      rw [h1, if_neg (by simp), List.mem_cons]
      by_cases h2 : Lib.indexByte l c = -1
      · rw [h2] at ih ⊢
        simp only [beq_self_eq_true, if_true]
        constructor
        · intro h; omega
        · rintro (h | h)
          · exact absurd h.symm hb
          · have := ih.2 h; omega
      · have h3 : (Lib.indexByte l c == -1) = false := beq_eq_false_iff_ne.2 h2
        rw [h3, if_neg (by simp)]
        constructor
        · intro h; exact .inr (ih.1 (by omega))
        · intro h; omega
set_option maxRecDepth 100000 in
set_option maxHeartbeats 1600000 in
theorem stands_any (b : Nat) (A : Option Addr) (n c p : Nat) (l s t : List UInt8) (w : World) (hR : Rd w b A n c p) (hr : Row w A n l) (hc : n ≤ c) (hs : Pl l p s) (ht : t.length ≤ 1000) :
    Calls Tryz.prog 144 #[.pointer (some ⟨b, 0, none⟩), .string (mk t)] w fun e w' => e = .returned (.bool (stands t s)) ∧ Rd w' b A n c p ∧ Moved b w w' := by
  have hm := hr.2.1
  unfold maxLen at hm
  have hp : p ≤ n := by have := hs.le; rw [hr.1] at this; exact this
  have hcp : n - p ≤ c - p := by omega
  obtain ⟨R, hRR⟩ : ∃ R, (if c = p then A else A.map (fun x => x.add p)) = R := ⟨_, rfl⟩
  obtain ⟨c2, W1, hc2, hcv, hr2, hb2⟩ := run_bytes w.drew (mk t) (by rw [mk_size]; unfold maxLen; omega)
  have HK1 : Hid (Rd W1 b A n c p) := hR.drew.kept hb2 hR.lt
  have HM1 : Hid (Moved b w W1) := (Moved.refl b w).drew.below hb2 (Nat.le_refl _) hR.lt
  have HRR : Hid (Row W1 R (n - p) s) := by
    have := Row.from_ hr p c hp hc hRR
    rw [hs.eq]
    exact row_keep this (hR.keep HM1.out)
  obtain ⟨A2, hA2⟩ : ∃ A2, some (⟨w.drew.heap.size, 0, none⟩ : Addr) = A2 := ⟨_, rfl⟩
  rw [hA2] at hcv hr2
  have HRB : Hid (Row W1 A2 (mk t).size t) := hr2
  have HCV := Lib.hid hcv
  obtain ⟨_, _, hx0, hx1, _⟩ := hR
  clear hr hs hr2 hcv hb2 hA2
  go_enter Tryz.func144, Tryz.ntmps144
  go_upto_region 1 with (fail)
  refine wp_region_held_drew (S := fun w' => w'.cell? ⟨b, 0, none⟩ = some (.slice A n c) ∧ w'.cell? ⟨b, 1, none⟩ = some (.int .i64 (p : Int))) (by kernel_rfl) ⟨hx0, hx1⟩ (fun hHeld => ?_)
  refine wpAnyH_take (i := 0) (oi := { dst := some 5, op := Op.move (Operand.tmp 0), type := 137, pos := _, after := _, guard := none }) (v := .pointer (some ⟨b, 0, none⟩)) rfl (by kernel_rfl) (by kernel_rfl) (by kernel_rfl) (fun _ _ _ h => h) (Or.inl ⟨by rfl, fun w' hS' => by go_simp⟩) (by assumption) ?_
  simp only [Act.put, List.setIfInBounds_toArray, List.set_cons_zero, List.set_cons_succ]
  refine wpAnyH_take (i := 1) (oi := { dst := some 6, op := Op.nilCheck (Operand.tmp 5), type := 0, pos := _, after := _, guard := none }) (v := .pointer (some ⟨b, 0, none⟩)) rfl (by kernel_rfl) (by kernel_rfl) (by kernel_rfl) (fun _ _ _ h => h) (Or.inl ⟨by rfl, fun w' hS' => by go_simp⟩) (by assumption) ?_
  simp only [Act.put, List.setIfInBounds_toArray, List.set_cons_zero, List.set_cons_succ]
  refine wpAnyH_take (i := 2) (oi := { dst := some 7, op := Op.fieldAddr 115 (Operand.tmp 6) 0, type := 0, pos := _, after := _, guard := none }) (v := .pointer (some ⟨b, 0, none⟩)) rfl (by kernel_rfl) (by kernel_rfl) (by kernel_rfl) (fun _ _ _ h => h) (Or.inl ⟨by rfl, fun w' hS' => by go_simp⟩) (by assumption) ?_
  simp only [Act.put, List.setIfInBounds_toArray, List.set_cons_zero, List.set_cons_succ]
  refine wpAnyH_take (i := 3) (oi := { dst := some 8, op := Op.load 68 (Operand.tmp 7), type := 68, pos := _, after := _, guard := none }) (v := .slice A n c) rfl (by kernel_rfl) (by kernel_rfl) (by kernel_rfl) (fun _ _ _ h => h) (Or.inl ⟨by rfl, fun w' hS' => by have x := hS'.1; go_simp⟩) (by assumption) ?_
  simp only [Act.put, List.setIfInBounds_toArray, List.set_cons_zero, List.set_cons_succ]
  refine wpAnyH_take (i := 4) (oi := { dst := some 9, op := Op.move (Operand.tmp 0), type := 137, pos := _, after := _, guard := none }) (v := .pointer (some ⟨b, 0, none⟩)) rfl (by kernel_rfl) (by kernel_rfl) (by kernel_rfl) (fun _ _ _ h => h) (Or.inl ⟨by rfl, fun w' hS' => by go_simp⟩) (by assumption) ?_
  simp only [Act.put, List.setIfInBounds_toArray, List.set_cons_zero, List.set_cons_succ]
  refine wpAnyH_take (i := 5) (oi := { dst := some 10, op := Op.nilCheck (Operand.tmp 9), type := 0, pos := _, after := _, guard := none }) (v := .pointer (some ⟨b, 0, none⟩)) rfl (by kernel_rfl) (by kernel_rfl) (by kernel_rfl) (fun _ _ _ h => h) (Or.inl ⟨by rfl, fun w' hS' => by go_simp⟩) (by assumption) ?_
  simp only [Act.put, List.setIfInBounds_toArray, List.set_cons_zero, List.set_cons_succ]
  refine wpAnyH_take (i := 6) (oi := { dst := some 11, op := Op.fieldAddr 115 (Operand.tmp 10) 1, type := 0, pos := _, after := _, guard := none }) (v := .pointer (some ⟨b, 1, none⟩)) rfl (by kernel_rfl) (by kernel_rfl) (by kernel_rfl) (fun _ _ _ h => h) (Or.inl ⟨by rfl, fun w' hS' => by go_simp⟩) (by assumption) ?_
  simp only [Act.put, List.setIfInBounds_toArray, List.set_cons_zero, List.set_cons_succ]
  refine wpAnyH_take (i := 7) (oi := { dst := some 12, op := Op.load 3 (Operand.tmp 11), type := 3, pos := _, after := _, guard := none }) (v := .int .i64 (p : Int)) rfl (by kernel_rfl) (by kernel_rfl) (by kernel_rfl) (fun _ _ _ h => h) (Or.inl ⟨by rfl, fun w' hS' => by have x := hS'.2; go_simp⟩) (by assumption) ?_
  simp only [Act.put, List.setIfInBounds_toArray, List.set_cons_zero, List.set_cons_succ]
  refine wpAnyH_take (i := 8) (oi := { dst := some 13, op := Op.slice 68 (Operand.tmp 8) (some (Operand.tmp 12)) none none, type := 68, pos := _, after := _, guard := none }) (v := .slice R (n - p) (c - p)) rfl (by kernel_rfl) (by kernel_rfl) (by kernel_rfl) (fun _ _ _ h => h) (Or.inl ⟨by rfl, fun w' hS' => by go_simp⟩) (by assumption) ?_
  simp only [Act.put, List.setIfInBounds_toArray, List.set_cons_zero, List.set_cons_succ]
  refine wpAnyH_take (i := 9) (oi := { dst := some 14, op := Op.move (Operand.tmp 1), type := 9, pos := _, after := _, guard := none }) (v := .string (mk t)) rfl (by kernel_rfl) (by kernel_rfl) (by kernel_rfl) (fun _ _ _ h => h) (Or.inl ⟨by rfl, fun w' hS' => by go_simp⟩) (by assumption) ?_
  simp only [Act.put, List.setIfInBounds_toArray, List.set_cons_zero, List.set_cons_succ]
  refine wpAnyH_ready (rs := [10]) (by kernel_rfl) (by simp) ?_
  refine AllReadyH.cons (o := { dst := some 15, op := Op.convert 9 68 (Operand.tmp 14), type := 68, pos := _, after := _, guard := none }) rfl (fun K hK => ?_) AllReadyH.nil
  go_simp
  rw [HCV.out]
  simp only [Result.andThen_ok]
  refine hK.out _ _ ⟨HK1.out.row, HK1.out.at_⟩ (fun hHeld => ?_)
  clear hK K
  try simp only [Act.put, List.setIfInBounds_toArray, List.set_cons_zero, List.set_cons_succ]
  refine wpAnyH_ready (rs := [11]) (by kernel_rfl) (by simp) ?_
  refine AllReadyH.cons (o := { dst := some 16, op := Op.call { callee := Callee.value (Operand.func 162), args := #[Operand.tmp 13, Operand.tmp 15], argTypes := #[68, 68] }, type := 4, pos := _, after := _, guard := none }) rfl (fun K hK => ?_) AllReadyH.nil
  go_simp
  refine (has_any R A2 _ _ _ _ _ _ _ HRR.out HRB.out hcp).mono ?_
  rintro e w2 ⟨rfl, rfl⟩
  clear hHeld
  refine hK.out _ _ ⟨HK1.out.row, HK1.out.at_⟩ (fun hHeld => ?_)
  clear hK K
  try simp only [Act.put, List.setIfInBounds_toArray, List.set_cons_zero, List.set_cons_succ]
  refine wpAnyH_take (i := 12) (oi := { dst := some 4, op := Op.assign (Operand.tmp 16), type := 4, pos := _, after := _, guard := none }) (v := .bool (stands t s)) rfl (by kernel_rfl) (by kernel_rfl) (by kernel_rfl) (fun _ _ _ h => h) (Or.inl ⟨by rfl, fun w' hS' => by go_simp⟩) (by assumption) ?_
  simp only [Act.put, List.setIfInBounds_toArray, List.set_cons_zero, List.set_cons_succ]
  refine wpAnyH_done (by kernel_rfl) ?_ _
  go_wp2
  go_ret
  exact ⟨rfl, HK1.out, HM1.out⟩
set_option maxRecDepth 100000 in
set_option maxHeartbeats 3200000 in
theorem oneOf_any (b : Nat) (A : Option Addr) (n c p : Nat) (l s t : List UInt8) (w : World) (hR : Rd w b A n c p) (hr : Row w A n l) (hs : Pl l p s) :
    Calls Tryz.prog 161 #[.pointer (some ⟨b, 0, none⟩), .string (mk t)] w fun e w' => e = .returned (.bool (oneOf t s)) ∧ Rd w' b A n c p ∧ Moved b w w' := by
  have hm := hr.2.1
  unfold maxLen at hm
  have HP := Lib.hid hs
  have HL := Lib.hid hr.1
  have HR := Lib.hid hR
  have HRow := Lib.hid hr
  obtain ⟨_, _, hx0, hx1, _⟩ := hR
  clear hr hs
  by_cases h1 : p < n
  · obtain ⟨g, o, rfl, hg, hcell⟩ := HRow.out.2.2 (by omega)
    have hx := hcell p h1
    have HT := Lib.hid (pl_next HP.out (by rw [HL.out]; exact h1))
    have HF : Hid (∀ (x : Int), byteAt l p = x → oneOf t s = decide (0 ≤ Lib.indexByte t x.toNat.toUInt8)) := fun x hx => by
      rw [HT.out, ← hx]
      show decide (l.getD p 0 ∈ t) = _
      have e : (byteAt l p).toNat.toUInt8 = l.getD p 0 := by unfold byteAt; simp
      rw [e, decide_eq_decide, index_mem]
    clear hcell
    obtain ⟨x, hxx⟩ : ∃ x, byteAt l p = x := ⟨_, rfl⟩
    have HF2 := Lib.hid (HF.out x hxx)
    rw [hxx] at hx
    clear hxx HF
    have hk1 : (p : Int) < (n : Int) := by omega
    have HI := Lib.hid (fun W => Tryz.strings_IndexByte (mk t) x W)
    rw [mk_list] at HI
    generalize Lib.indexByte t x.toNat.toUInt8 = y at HF2 HI
    rw [HF2.out]
    go_enter Tryz.func161, Tryz.ntmps161
    go_wp2_with fail
    go_quiet (first | (go_at_call 172; refine Calls.quiet_of_same (HI.out _)))
    go_wp2
    go_ret
    exact ⟨rfl, HR.out.drewN _, (Moved.refl b w).drewN _⟩
  · have HF : Hid (oneOf t s = false) := by
      have e : s = [] := by rw [HP.out.eq]; exact List.drop_eq_nil_of_le (by rw [HL.out]; omega)
      unfold Hid; rw [e]; rfl
    have hk1 : decide ((p : Int) < (n : Int)) = false := by simp; omega
    rw [HF.out]
    go_enter Tryz.func161, Tryz.ntmps161
    go_wp2_with fail
    go_quiet (fail)
    go_wp2
    go_ret
    exact ⟨rfl, HR.out.drewN _, (Moved.refl b w).drewN _⟩
set_option maxRecDepth 100000 in
set_option maxHeartbeats 1600000 in
theorem lack_any (b : Nat) (A : Option Addr) (n c p : Nat) (l s : List UInt8) (w : World) (hR : Rd w b A n c p) (hr : Row w A n l) (hs : Pl l p s) :
    Calls Tryz.prog 170 #[.pointer (some ⟨b, 0, none⟩)] w fun e w' => e = .returned (.int .i64 (lackN s : Int)) ∧ Rd w' b A n c p ∧ Moved b w w' := by
  have hm := hr.2.1
  unfold maxLen at hm
  have HP := Lib.hid hs
  have HL := Lib.hid hr.1
  have HR := Lib.hid hR
  have hle : p ≤ n := by have := hs.le; rw [hr.1] at this; exact this
  obtain ⟨_, _, hx0, hx1, _⟩ := hR
  clear hr hs
  by_cases h1 : p = n
  · have HF : Hid (lackN s = 5) := by
      have e : s = [] := by rw [HP.out.eq]; exact List.drop_eq_nil_of_le (by rw [HL.out]; omega)
      unfold Hid; rw [e]; rfl
    have hk1 : ((p : Int) == (n : Int)) = true := by simp [h1]
    clear h1
    rw [HF.out]
    go_enter Tryz.func170, Tryz.ntmps170
    go_wp2_with fail
    go_quiet (fail)
    go_wp2
    go_ret
    exact ⟨rfl, HR.out.drewN _, (Moved.refl b w).drewN _⟩
  · have HF : Hid (lackN s = 3) := by
      have e : s ≠ [] := by
        intro e
        have := HP.out.len
        rw [e, HL.out, List.length_nil] at this
        omega
      unfold Hid lackN; rw [if_neg e]
    have hk1 : ((p : Int) == (n : Int)) = false := by simp; omega
    clear h1
    rw [HF.out]
    go_enter Tryz.func170, Tryz.ntmps170
    go_wp2_with fail
    go_quiet (fail)
    go_wp2
    go_ret
    exact ⟨rfl, HR.out.drewN _, (Moved.refl b w).drewN _⟩
end Go.Proofs.YtgfbflnhjpbceaaGreatDoor.Range

namespace Go.Proofs.YtgfbflnhjpbceaaGreatDoor.Range
open Go.RowKit Num Ident Semver

/-- The table of ops reads as it is written. -/
def OpsTab (w : World) : Prop := ∀ i, i < 8 → w.cell? ⟨0, i, none⟩ = some (.string (mk (ops.getD i [])))
theorem OpsTab.keep {w w' : World} (h : OpsTab w) (k : Keep w w') : OpsTab w' := fun i hi => k.cell _ _ _ (h i hi) (.inl fun x e => by cases e)
theorem opFrom_at (s : List UInt8) (k : Nat) (hk : k < 8) : opFrom s (ops.drop k) ((k : Int) + 1) = if stands (ops.getD k []) s = true then ((k : Int) + 1, ops.getD k []) else opFrom s (ops.drop (k + 1)) (((k + 1 : Nat) : Int) + 1) := by
  have e : ops.drop k = ops.getD k [] :: ops.drop (k + 1) := by
    rw [List.drop_eq_getElem_cons (show k < ops.length from hk)]
    simp [List.getD, List.getElem?_eq_getElem (show k < ops.length from hk)]
  rw [e, opFrom]
  rfl
theorem ops_len (k : Nat) : (ops.getD k []).length ≤ 1000 := by
  unfold ops
  match k with
  | 0 | 1 | 2 | 3 | 4 | 5 | 6 | 7 => decide
  | k + 8 => exact Nat.zero_le _
def OpJ (w : World) (b : Nat) (A : Option Addr) (n c p : Nat) (s : List UInt8) (i : Value) (W : World) : Prop :=
  ∃ k : Nat, k ≤ 8 ∧ i = .int .i64 (k : Int) ∧ opFrom s (ops.drop k) ((k : Int) + 1) = opOf s ∧ Rd W b A n c p ∧ Moved b w W
set_option maxRecDepth 100000 in
set_option maxHeartbeats 3200000 in
theorem op_any (b : Nat) (A : Option Addr) (n c p : Nat) (l s : List UInt8) (w : World) (hR : Rd w b A n c p) (hr : Row w A n l) (hc : n ≤ c) (hs : Pl l p s) (ht : OpsTab w) :
    Calls Tryz.prog 157 #[.pointer (some ⟨b, 0, none⟩)] w fun e w' => e = .returned (.tuple #[.int .i64 (opOf s).1, .string (mk (opOf s).2)]) ∧ Rd w' b A n c p ∧ Moved b w w' := by
  have HR := Lib.hid hR
  have HRow := Lib.hid hr
  have HP := Lib.hid hs
  have HT := Lib.hid ht
  clear hR hr hs ht
  go_enter Tryz.func157, Tryz.ntmps157
  go_wp2
  go_loopw [5] (fun i W => OpJ w b A n c p s i W) (fun i _ => 8 - (intOf i).toNat)
  case atStart => exact ⟨0, by omega, rfl, rfl, HR.out, Moved.refl _ _⟩
  case round =>
    obtain ⟨k, hk, rfl, hop, hR1, hM1⟩ := hrel
    have HR1 := Lib.hid hR1
    have HM1 := Lib.hid hM1
    have HOp := Lib.hid hop
    have HK := Lib.hid (HR.out.keep hM1)
    have HT1 := Lib.hid (HT.out.keep HK.out)
    have HRow1 := Lib.hid (row_keep HRow.out HK.out)
    clear hR1 hM1 hop
    by_cases hlt : k < 8
    · have hx := HT1.out k hlt
      have HSt := Lib.hid (opFrom_at s k hlt)
      have HC := Lib.hid (fun W (h1 : Rd W b A n c p) (h2 : Row W A n l) => stands_any b A n c p l s (ops.getD k []) W h1 h2 hc HP.out (ops_len k))
      generalize ops.getD k [] = t at hx HSt HC
      go_wp2_with fail
      refine (HC.out _ HR1.out HRow1.out).mono ?_
      rintro e w2 ⟨rfl, hR2, hM2⟩
      have HR2 := Lib.hid hR2
      have hx2 : w2.cell? ⟨0, k, none⟩ = some (.string (mk t)) := (HR1.out.keep hM2).cell _ _ _ hx (.inl fun x e => by cases e)
      have HM2 := Lib.hid (HM1.out.trans hM2)
      clear hR2 hM2
      cases hst : stands t s with
      | true =>
        have HF : Hid (opOf s = (1 + (k : Int), t)) := by
          have := HSt.out
          rw [hst, if_pos rfl] at this
          rw [Int.add_comm]; exact HOp.out.symm.trans this
        clear HSt hx
        go_wp2_with fail
        go_quiet (fail)
        go_wp2
        go_ret2
        rw [HF.out]
        exact ⟨rfl, HR2.out.drewN _, HM2.out.drewN _⟩
      | false =>
        have HF : Hid (opFrom s (ops.drop (k + 1)) (((k + 1 : Nat) : Int) + 1) = opOf s) := by
          have := HSt.out
          rw [hst, if_neg (by simp)] at this
          exact this.symm.trans HOp.out
        clear HSt hx
        go_wp2
        exact ⟨⟨k + 1, by omega, by go_num, HF.out, HR2.out, HM2.out⟩, by simp [intOf]; omega⟩
    · have HF : Hid (opOf s = (5, [])) := by
        have h8 : k = 8 := by omega
        have := HOp.out
        rw [h8] at this
        exact this.symm
      have hk8 : k = 8 := by omega
      subst hk8
      go_wp2
      go_ret2
      rw [HF.out]
      exact ⟨rfl, HR1.out, HM1.out⟩
/-- What a look for a further part leaves. -/
def FurPost (b : Nat) (A : Option Addr) (n c p : Nat) (l : List UInt8) (w : World) (f : Option (List UInt8)) (e : Ending) (w' : World) : Prop :=
  Moved b w w' ∧ match f with
    | some s' => e = .returned (.bool true) ∧ ∃ q, Pl l q s' ∧ Rd w' b A n c q
    | none => e = .returned (.bool false) ∧ Rd w' b A n c p
set_option maxRecDepth 100000 in
set_option maxHeartbeats 1600000 in
theorem furE_any (b : Nat) (A : Option Addr) (n c p : Nat) (l s : List UInt8) (w : World) (hR : Rd w b A n c p) (hr : Row w A n l) (hc : n ≤ c) (hs : Pl l p s) :
    Calls Tryz.prog 115 #[.pointer (some ⟨b, 0, none⟩)] w (FurPost b A n c p l w (furE s)) := by
  have HR := Lib.hid hR
  have HRow := Lib.hid hr
  have HP := Lib.hid hs
  have HFU : Hid (furE s = if stands [124, 124] s = true then some (blanks (s.drop 2)) else none) := rfl
  have HLen := Lib.hid (fun h => stands_len (t := [124, 124]) (s := s) h)
  clear hR hr hs
  go_enter Tryz.func115, Tryz.ntmps115
  go_wp2_with fail
  refine (stands_any b A n c p l s [124, 124] _ HR.out HRow.out hc HP.out (by decide)).mono ?_
  rintro e w1 ⟨rfl, hR1, hM1⟩
  have HR1 := Lib.hid hR1
  have HM1 := Lib.hid hM1
  have HRow1 := Lib.hid (row_keep HRow.out (HR.out.keep hM1))
  clear hR1 hM1
  cases hst : stands [124, 124] s with
  | true =>
    rw [hst] at HFU
    have HF : Hid (furE s = some (blanks (s.drop 2))) := HFU.out
    have h2 := HLen.out hst
    rw [HP.out.len, HRow.out.1] at h2
    have hpn := HP.out.le
    rw [HRow.out.1] at hpn
    have hk : p + 2 ≤ n := by simp at h2; omega
    clear h2
    go_wp2_with fail
    refine (pass_any b A n c p 2 l s _ HR1.out HRow1.out HP.out hk).mono ?_
    rintro e w2 ⟨rfl, q, hq, hR2, hM2⟩
    go_wp2
    go_ret
    rw [HF.out]
    exact ⟨HM1.out.trans hM2, rfl, q, hq, hR2⟩
  | false =>
    rw [hst] at HFU
    have HF : Hid (furE s = none) := HFU.out
    go_wp2
    go_ret
    rw [HF.out]
    exact ⟨HM1.out, rfl, HR1.out⟩
set_option maxRecDepth 100000 in
set_option maxHeartbeats 1600000 in
theorem furO_any (b : Nat) (A : Option Addr) (n c p : Nat) (l s : List UInt8) (w : World) (hR : Rd w b A n c p) (hr : Row w A n l) (hc : n ≤ c) (hs : Pl l p s) :
    Calls Tryz.prog 143 #[.pointer (some ⟨b, 0, none⟩)] w (FurPost b A n c p l w (furO s)) := by
  have HR := Lib.hid hR
  have HRow := Lib.hid hr
  have HP := Lib.hid hs
  have HFU : Hid (furO s = if stands [44] s = true then some (blanks (s.drop 1)) else if oneOf starts s = true then some s else none) := rfl
  have HLen := Lib.hid (fun h => stands_len (t := [44]) (s := s) h)
  clear hR hr hs
  go_enter Tryz.func143, Tryz.ntmps143
  go_wp2_with fail
  refine (stands_any b A n c p l s [44] _ HR.out HRow.out hc HP.out (by decide)).mono ?_
  rintro e w1 ⟨rfl, hR1, hM1⟩
  have HR1 := Lib.hid hR1
  have HM1 := Lib.hid hM1
  have HRow1 := Lib.hid (row_keep HRow.out (HR.out.keep hM1))
  clear hR1 hM1
  cases hst : stands [44] s with
  | true =>
    rw [hst] at HFU
    have HF : Hid (furO s = some (blanks (s.drop 1))) := HFU.out
    have h2 := HLen.out hst
    rw [HP.out.len, HRow.out.1] at h2
    have hpn := HP.out.le
    rw [HRow.out.1] at hpn
    have hk : p + 1 ≤ n := by simp at h2; omega
    clear h2
    go_wp2_with fail
    refine (pass_any b A n c p 1 l s _ HR1.out HRow1.out HP.out hk).mono ?_
    rintro e w2 ⟨rfl, q, hq, hR2, hM2⟩
    go_wp2
    go_ret
    rw [HF.out]
    exact ⟨HM1.out.trans hM2, rfl, q, hq, hR2⟩
  | false =>
    rw [hst] at HFU
    have HFU2 : Hid (furO s = if oneOf starts s = true then some s else none) := HFU.out
    clear HFU
    go_wp2_with fail
    refine (oneOf_any b A n c p l s starts _ HR1.out HRow1.out HP.out).mono ?_
    rintro e w2 ⟨rfl, hR2, hM2⟩
    have HM2 := Lib.hid (HM1.out.trans hM2)
    have HR2 := Lib.hid hR2
    clear hR2 hM2
    generalize oneOf starts s = x at HFU2
    go_wp2
    go_ret
    rw [HFU2.out]
    cases x with
    | true => exact ⟨HM2.out, rfl, p, HP.out, HR2.out⟩
    | false => exact ⟨HM2.out, rfl, HR2.out⟩
end Go.Proofs.YtgfbflnhjpbceaaGreatDoor.Range

namespace Go.Proofs.YtgfbflnhjpbceaaGreatDoor.Semver
open Go.RowKit Num Ident

set_option maxRecDepth 100000 in
set_option maxHeartbeats 400000 in
theorem point_any (A : Option Addr) (n c : Nat) (l : List UInt8) (q : Nat) (w : World) (h : Row w A n l) (hq : q ≤ n) :
    Calls Tryz.prog 193 #[.slice A n c, .int .i64 q] w fun e w' => e = .returned (.int .i64 (point l q)) ∧ w = w' := by
  obtain ⟨hl, hm, hc⟩ := h
  unfold maxLen at hm
  have HC := Lib.hid hc; clear hc
  have HL := Lib.hid hl; clear hl
  by_cases h0 : q = n
  · have HF := Lib.hid (point_end (l := l) (q := q) (by rw [HL.out]; exact h0))
    subst h0
    have hb : ((q : Int) == (q : Int)) = true := by simp
    go_enter Tryz.func193, Tryz.ntmps193
    go_wp2
    go_ret
    exact ⟨by rw [HF.out]; rfl, rfl⟩
  · have hlt : q < n := by omega
    have hb : ((q : Int) == (n : Int)) = false := by simp; omega
    obtain ⟨b, o, rfl, hbl, hcell⟩ := HC.out (by omega)
    have hx := hcell q hlt
    clear hcell HC
    have HN := Lib.hid (point_no (l := l) (q := q) (by rw [HL.out]; exact h0))
    have HY := Lib.hid (point_yes (l := l) (q := q) (by rw [HL.out]; exact h0))
    have hbd := byteAt_bd l q
    generalize byteAt l q = x at hx hbd HN HY
    clear h0
    by_cases h46 : x = 46
    · have HF := Lib.hid (HY.out h46)
      have h1 : (x != 46) = false := by simp [h46]
      clear h46 HN HY
      go_enter Tryz.func193, Tryz.ntmps193
      go_wp2
      go_ret
      exact ⟨by rw [HF.out]; rfl, rfl⟩
    · have HF := Lib.hid (HN.out h46)
      have h1 : (x != 46) = true := by simp [h46]
      clear h46 HN HY
      go_enter Tryz.func193, Tryz.ntmps193
      go_wp2
      go_ret
      exact ⟨by rw [HF.out]; rfl, rfl⟩

/-- What readCore answers. -/
def coreOut (k : Core) : Value := .tuple #[.agg #[.int .u64 (k.2.2.1 : Int), .int .u64 (k.2.2.2.1 : Int), .int .u64 (k.2.2.2.2 : Int)], .int .i64 (k.2.1 : Int), .int .i64 (k.1 : Int)]

/-- How far the numbers have been read: at place q, i of them. -/
def CoreAt (w : World) (l : List UInt8) (p q i : Nat) (w' : World) : Prop :=
  (i = 0 ∧ w' = (w.alloc (.cells #[.int .u64 0, .int .u64 0, .int .u64 0] 99)) ∧ core l q = core l p) ∨
  (i = 1 ∧ ∃ x : Nat, w' = (w.alloc (.cells #[.int .u64 (x : Int), .int .u64 0, .int .u64 0] 99)) ∧ core1 l x q = core l p) ∨
  (i = 2 ∧ ∃ x y : Nat, w' = (w.alloc (.cells #[.int .u64 (x : Int), .int .u64 (y : Int), .int .u64 0] 99)) ∧ core2 l x y q = core l p)
def CoreJ (w : World) (A : Option Addr) (n c : Nat) (l : List UInt8) (p : Nat) (a' : Act) (w' : World) : Prop :=
  ∃ (q i : Nat) (u8 u9 u10 u11 u12 u13 u14 u15 u16 u17 u18 u19 u20 u21 u22 u23 u24 u25 u26 u27 u28 u29 u30 u31 u32 u33 u34 u35 u36 u37 u38 u39 u40 u41 u42 u43 : Value), q ≤ n ∧ CoreAt w l p q i w' ∧
    a' = { tmps := #[.slice A n c, .int .i64 q, undef, undef, .pointer (some ⟨w.heap.size, 0, none⟩), .int .i64 0, .int .i64 0, .int .i64 i, u8, u9, u10, u11, u12, u13, u14, u15, u16, u17, u18, u19, u20, u21, u22, u23, u24, u25, u26, u27, u28, u29, u30, u31, u32, u33, u34, u35, u36, u37, u38, u39, u40, u41, u42, u43], defers := [] }
def CoreM (a' : Act) (_ : World) : Nat := 3 - (intOf (a'.tmps.getD 7 undef)).toNat

set_option maxRecDepth 100000 in
set_option maxHeartbeats 1600000 in
theorem readCore_any (A : Option Addr) (n c : Nat) (l : List UInt8) (p : Nat) (w : World) (h : Row w A n l) (hc : n ≤ c) (hp : p ≤ n) :
    Calls Tryz.prog 181 #[.slice A n c, .int .i64 p] w fun e w' => e = .returned (coreOut (core l p)) ∧ Below w.heap.size w w' := by
  have hm := h.2.1
  unfold maxLen at hm
  have HR := Lib.hid h
  have HL := Lib.hid h.1
  clear h
  go_enter Tryz.func181, Tryz.ntmps181
  go_wp2
  refine wp_scope_back 0 (CoreJ w A n c l p) CoreM rfl ?_ ?_
  · rintro a' w1 ⟨q, i, u8, u9, u10, u11, u12, u13, u14, u15, u16, u17, u18, u19, u20, u21, u22, u23, u24, u25, u26, u27, u28, u29, u30, u31, u32, u33, u34, u35, u36, u37, u38, u39, u40, u41, u42, u43, hq, (⟨rfl, rfl, hQ⟩ | ⟨rfl, x, rfl, hQ⟩ | ⟨rfl, x, y, rfl, hQ⟩), rfl⟩
    all_goals
      have HQ := Lib.hid hQ
      clear hQ
    · have HB : Hid (Below w.heap.size w (w.alloc (.cells #[.int .u64 0, .int .u64 0, .int .u64 0] 99))) := ((Below.refl w.heap.size w).alloc (Nat.le_refl _) _)
      have HPE := Lib.hid (parse_end l q (by rw [HL.out]; exact hq))
      obtain ⟨⟨v, m, f⟩, hp⟩ : ∃ t, parse l q = t := ⟨_, rfl⟩
      have HE : Hid (core l q = if f ≠ 0 then (f, q, 0, 0, 0) else after1 l v (q + m)) := by unfold Hid core; rw [hp]
      have HP : Hid (parseOut l q = .tuple #[.int .u64 (v : Int), .int .i64 (m : Int), .int .i64 (f : Int)]) := by unfold Hid parseOut; rw [hp]
      rw [hp] at HPE
      have hqm : q + m ≤ n := by have := HPE.out; rw [HL.out] at this; exact this
      clear hp HPE
      go_wp2_with fail
      refine (parse_any _ _ _ l q _ (HR.out.kept HB.out) hc).mono ?_
      rintro e w' ⟨rfl, rfl⟩
      rw [HP.out]
      by_cases h0 : f = 0
      · subst h0
        have HE2 : Hid (core l q = after1 l v (q + m)) := HE.out.trans (if_neg (by simp))
        have HB2 : Hid (Below w.heap.size w (w.alloc (.cells #[.int .u64 (v : Int), .int .u64 0, .int .u64 0] 99))) := ((Below.refl w.heap.size w).alloc (Nat.le_refl _) _)
        clear HE
        go_wp2_with fail
        refine (point_any _ _ _ l (q + m) _ (HR.out.kept HB2.out) hqm).mono ?_
        rintro e w' ⟨rfl, rfl⟩
        have HPL := Lib.hid (point_lt (l := l) (q := q + m) (by rw [HL.out]; exact hqm))
        have HE3 : Hid (core l q = if point l (q + m) ≠ 0 then (point l (q + m), q + m, 0, 0, 0) else core1 l v (q + m + 1)) := HE2.out
        clear HE2
        generalize point l (q + m) = g at HPL HE3 ⊢
        by_cases h1 : g = 0
        · subst h1
          have HE4 : Hid (core l q = core1 l v (q + m + 1)) := HE3.out.trans (if_neg (by simp))
          have hql : q + m + 1 ≤ n := by have := HPL.out rfl; rw [HL.out] at this; omega
          go_wp2
          go_step3
          rw [show ((q : Int) + (m : Int) + 1) = ((q + m + 1 : Nat) : Int) from rfl]
          refine ⟨rfl, ⟨q + m + 1, 1, _, _, _, _, _, _, _, _, _, _, _, _, _, _, _, _, _, _, _, _, _, _, _, _, _, _, _, _, _, _, _, _, _, _, _, _, hql, .inr (.inl ⟨rfl, v, rfl, HE4.out.symm.trans HQ.out⟩), rfl⟩, ?_⟩
          simp [CoreM, intOf]
        · have HE4 : Hid (core l q = (g, q + m, 0, 0, 0)) := HE3.out.trans (if_pos h1)
          have hb1 : ((g : Int) != 0) = true := by simp [h1]
          have hb2 : ((g : Int) == 0) = false := by simp [h1]
          clear h1 HE3
          go_wp2
          simp only [Exit.jump]
          exact bodyPost_ret (v := coreOut (g, q + m, 0, 0, 0)) (by simp [coreOut, results, Tryz.results181, go_sem]) rfl ⟨by rw [← HQ.out, HE4.out], ((Below.refl w.heap.size w).alloc (Nat.le_refl _) _)⟩
      · have HE2 : Hid (core l q = (f, q, 0, 0, 0)) := HE.out.trans (if_pos h0)
        have hb1 : ((f : Int) != 0) = true := by simp [h0]
        have hb2 : ((f : Int) == 0) = false := by simp [h0]
        clear h0 HE
        go_wp2
        simp only [Exit.jump]
        exact bodyPost_ret (v := coreOut (f, q, 0, 0, 0)) (by simp [coreOut, results, Tryz.results181, go_sem]) rfl ⟨by rw [← HQ.out, HE2.out], ((Below.refl w.heap.size w).alloc (Nat.le_refl _) _)⟩
    · have HB : Hid (Below w.heap.size w (w.alloc (.cells #[.int .u64 (x : Int), .int .u64 0, .int .u64 0] 99))) := ((Below.refl w.heap.size w).alloc (Nat.le_refl _) _)
      have HPE := Lib.hid (parse_end l q (by rw [HL.out]; exact hq))
      obtain ⟨⟨v, m, f⟩, hp⟩ : ∃ t, parse l q = t := ⟨_, rfl⟩
      have HE : Hid (core1 l x q = if f ≠ 0 then (f, q, 0, 0, 0) else after2 l x v (q + m)) := by unfold Hid core1; rw [hp]
      have HP : Hid (parseOut l q = .tuple #[.int .u64 (v : Int), .int .i64 (m : Int), .int .i64 (f : Int)]) := by unfold Hid parseOut; rw [hp]
      rw [hp] at HPE
      have hqm : q + m ≤ n := by have := HPE.out; rw [HL.out] at this; exact this
      clear hp HPE
      go_wp2_with fail
      refine (parse_any _ _ _ l q _ (HR.out.kept HB.out) hc).mono ?_
      rintro e w' ⟨rfl, rfl⟩
      rw [HP.out]
      by_cases h0 : f = 0
      · subst h0
        have HE2 : Hid (core1 l x q = after2 l x v (q + m)) := HE.out.trans (if_neg (by simp))
        have HB2 : Hid (Below w.heap.size w (w.alloc (.cells #[.int .u64 (x : Int), .int .u64 (v : Int), .int .u64 0] 99))) := ((Below.refl w.heap.size w).alloc (Nat.le_refl _) _)
        clear HE
        go_wp2_with fail
        refine (point_any _ _ _ l (q + m) _ (HR.out.kept HB2.out) hqm).mono ?_
        rintro e w' ⟨rfl, rfl⟩
        have HPL := Lib.hid (point_lt (l := l) (q := q + m) (by rw [HL.out]; exact hqm))
        have HE3 : Hid (core1 l x q = if point l (q + m) ≠ 0 then (point l (q + m), q + m, 0, 0, 0) else core2 l x v (q + m + 1)) := HE2.out
        clear HE2
        generalize point l (q + m) = g at HPL HE3 ⊢
        by_cases h1 : g = 0
        · subst h1
          have HE4 : Hid (core1 l x q = core2 l x v (q + m + 1)) := HE3.out.trans (if_neg (by simp))
          have hql : q + m + 1 ≤ n := by have := HPL.out rfl; rw [HL.out] at this; omega
          go_wp2
          go_step3
          rw [show ((q : Int) + (m : Int) + 1) = ((q + m + 1 : Nat) : Int) from rfl]
          refine ⟨rfl, ⟨q + m + 1, 2, _, _, _, _, _, _, _, _, _, _, _, _, _, _, _, _, _, _, _, _, _, _, _, _, _, _, _, _, _, _, _, _, _, _, _, _, hql, .inr (.inr ⟨rfl, x, v, rfl, HE4.out.symm.trans HQ.out⟩), rfl⟩, ?_⟩
          simp [CoreM, intOf]
        · have HE4 : Hid (core1 l x q = (g, q + m, 0, 0, 0)) := HE3.out.trans (if_pos h1)
          have hb1 : ((g : Int) != 0) = true := by simp [h1]
          have hb2 : ((g : Int) == 0) = false := by simp [h1]
          clear h1 HE3
          go_wp2
          simp only [Exit.jump]
          exact bodyPost_ret (v := coreOut (g, q + m, 0, 0, 0)) (by simp [coreOut, results, Tryz.results181, go_sem]) rfl ⟨by rw [← HQ.out, HE4.out], ((Below.refl w.heap.size w).alloc (Nat.le_refl _) _)⟩
      · have HE2 : Hid (core1 l x q = (f, q, 0, 0, 0)) := HE.out.trans (if_pos h0)
        have hb1 : ((f : Int) != 0) = true := by simp [h0]
        have hb2 : ((f : Int) == 0) = false := by simp [h0]
        clear h0 HE
        go_wp2
        simp only [Exit.jump]
        exact bodyPost_ret (v := coreOut (f, q, 0, 0, 0)) (by simp [coreOut, results, Tryz.results181, go_sem]) rfl ⟨by rw [← HQ.out, HE2.out], ((Below.refl w.heap.size w).alloc (Nat.le_refl _) _)⟩
    · have HB : Hid (Below w.heap.size w (w.alloc (.cells #[.int .u64 (x : Int), .int .u64 (y : Int), .int .u64 0] 99))) := ((Below.refl w.heap.size w).alloc (Nat.le_refl _) _)
      have HPE := Lib.hid (parse_end l q (by rw [HL.out]; exact hq))
      obtain ⟨⟨v, m, f⟩, hp⟩ : ∃ t, parse l q = t := ⟨_, rfl⟩
      have HE : Hid (core2 l x y q = if f ≠ 0 then (f, q, 0, 0, 0) else (0, q + m, x, y, v)) := by unfold Hid core2; rw [hp]
      have HP : Hid (parseOut l q = .tuple #[.int .u64 (v : Int), .int .i64 (m : Int), .int .i64 (f : Int)]) := by unfold Hid parseOut; rw [hp]
      rw [hp] at HPE
      have hqm : q + m ≤ n := by have := HPE.out; rw [HL.out] at this; exact this
      clear hp HPE
      go_wp2_with fail
      refine (parse_any _ _ _ l q _ (HR.out.kept HB.out) hc).mono ?_
      rintro e w' ⟨rfl, rfl⟩
      rw [HP.out]
      by_cases h0 : f = 0
      · subst h0
        have HE2 : Hid (core2 l x y q = (0, q + m, x, y, v)) := HE.out.trans (if_neg (by simp))
        clear HE
        go_wp2
        simp only [Exit.jump]
        exact bodyPost_ret (v := coreOut (0, q + m, x, y, v)) (by simp [coreOut, results, Tryz.results181, go_sem]) rfl ⟨by rw [← HQ.out, HE2.out], ((Below.refl w.heap.size w).alloc (Nat.le_refl _) _)⟩
      · have HE2 : Hid (core2 l x y q = (f, q, 0, 0, 0)) := HE.out.trans (if_pos h0)
        have hb1 : ((f : Int) != 0) = true := by simp [h0]
        have hb2 : ((f : Int) == 0) = false := by simp [h0]
        clear h0 HE
        go_wp2
        simp only [Exit.jump]
        exact bodyPost_ret (v := coreOut (f, q, 0, 0, 0)) (by simp [coreOut, results, Tryz.results181, go_sem]) rfl ⟨by rw [← HQ.out, HE2.out], ((Below.refl w.heap.size w).alloc (Nat.le_refl _) _)⟩
  · intro HP
    go_wp2
    go_step3
    rename_i hK
    exact hK _ _ (HP.out _ _ ⟨p, 0, _, _, _, _, _, _, _, _, _, _, _, _, _, _, _, _, _, _, _, _, _, _, _, _, _, _, _, _, _, _, _, _, _, _, _, _, hp, .inl ⟨rfl, rfl, rfl⟩, rfl⟩)
end Go.Proofs.YtgfbflnhjpbceaaGreatDoor.Semver

namespace Go.Proofs.YtgfbflnhjpbceaaGreatDoor.Ident
open Go.RowKit Num

/-- The slice lies in a block from B on, if there is something in it. -/
def Fresh (B : Nat) (A : Option Addr) (n : Nat) : Prop := 0 < n → ∃ b o, A = some ⟨b, o, none⟩ ∧ B ≤ b
theorem Fresh.none_ (B : Nat) (A : Option Addr) : Fresh B A 0 := fun h => absurd h (Nat.lt_irrefl _)
theorem Fresh.mono {B B' : Nat} {A : Option Addr} {n : Nat} (h : Fresh B A n) (hB : B' ≤ B) : Fresh B' A n := fun h0 => by
  obtain ⟨b, o, e, hb⟩ := h h0
  exact ⟨b, o, e, Nat.le_trans hB hb⟩
theorem Fresh.of_own {w : World} {base : Nat} {e : TypeId} {k : Nat} {A : Option Addr} {n c : Nat} {xs : List Value} (h : w.ownsRow base e k (.slice A n c) n xs) : Fresh base A n := fun h0 => by
  rcases h.2 with ⟨_, h1⟩ | ⟨g, cap, cur, hv, hg, _⟩
  · omega
  · injection hv with hv _ _
    exact ⟨g, 0, hv, hg⟩
/-- The same, and that the row's block is new. -/
def RowPostF (w : World) (r : Res) (e : Ending) (w' : World) : Prop :=
  ∃ A c, e = .returned (.tuple #[.slice A r.2.2.length c, .int .i64 (r.2.1 : Int), .int .i64 (r.1 : Int)]) ∧ r.2.2.length ≤ c ∧ SRow w' A r.2.2.length r.2.2 ∧ Below w.heap.size w w' ∧ Fresh w.heap.size A r.2.2.length
theorem RowPostF.bad {w w' : World} {f : Nat} (hb : Below w.heap.size w w') : RowPostF w (f, 0, []) (.returned (.tuple #[.slice none 0 0, .int .i64 0, .int .i64 (f : Int)])) w' :=
  ⟨none, 0, rfl, Nat.le_refl _, SRow.none_ _ _, hb, Fresh.none_ _ _⟩

set_option maxRecDepth 100000 in
set_option maxHeartbeats 400000 in
theorem row_out (A : Option Addr) (n c : Nat) (l : List UInt8) (p : Int) (pre : Bool) (w : World) (h : Row w A n l) (ho : p < 0 ∨ (n : Int) < p) :
    Calls Tryz.prog 194 #[.slice A n c, .int .i64 p, .bool pre] w (RowPostF w (row l p pre)) := by
  have HE : Hid (row l p pre = (1, 0, [])) := by
    unfold Hid row; rw [if_pos (by rw [h.1]; exact ho)]
  rw [HE.out]
  clear h HE
  by_cases h0 : p < 0
  · go_enter Tryz.func194, Tryz.ntmps194
    go_wp2
    refine wp_scope_back 0 (fun _ _ => False) (fun _ _ => 0) rfl (fun _ _ hF => hF.elim) ?_
    intro _
    go_wp2
    simp only [Exit.jump]
    go_ret3
    exact RowPostF.bad (f := 1) (Below.refl _ _)
  · have h1 : (n : Int) < p := by omega
    clear ho
    go_enter Tryz.func194, Tryz.ntmps194
    go_wp2
    refine wp_scope_back 0 (fun _ _ => False) (fun _ _ => 0) rfl (fun _ _ hF => hF.elim) ?_
    intro _
    go_wp2
    simp only [Exit.jump]
    go_ret3
    exact RowPostF.bad (f := 1) (Below.refl _ _)

theorem go_step_bad {pre : Bool} {l s : List UInt8} {acc : List (List UInt8)} {k m : Nat} (hM : lead (l.drop k) = m) (hs : (l.drop k).take m = s) (hf : fault s acc.length pre ≠ 0) : go pre (l.drop k) [] acc k = (fault s acc.length pre, 0, []) := by
  subst hM; subst hs; exact go_stop pre _ acc k hf
theorem lead_end (l : List UInt8) (h : lead l < l.length) : isId (l.getD (lead l) 0) = false := by
  induction l with
  | nil => simp at h
  | cons b r ih =>
    by_cases hb : isId b = true
    · rw [lead, if_pos hb] at h ⊢
      simpa using ih (by simpa using h)
    · rw [lead, if_neg hb]; simpa using hb
theorem go_step_point {pre : Bool} {l s : List UInt8} {acc : List (List UInt8)} {k m : Nat} (hM : lead (l.drop k) = m) (hs : (l.drop k).take m = s) (hf : fault s acc.length pre = 0) (hlt : k + m < l.length) (hx : byteAt l (k + m) = 46) :
    go pre (l.drop k) [] acc k = go pre (l.drop (k + m + 1)) [] (acc ++ [s]) (k + m + 1) := by
  rw [go_lead, hM, hs, List.nil_append, List.drop_drop, drop_getD l (k + m) hlt]
  exact go_point (by unfold byteAt at hx; omega) hf
theorem go_step_end {pre : Bool} {l s : List UInt8} {acc : List (List UInt8)} {k m : Nat} (hM : lead (l.drop k) = m) (hs : (l.drop k).take m = s) (hf : fault s acc.length pre = 0) (h : l.length ≤ k + m ∨ byteAt l (k + m) ≠ 46) :
    go pre (l.drop k) [] acc k = (0, k + m, acc ++ [s]) := by
  have e : shut pre s acc (k + m) = (0, k + m, acc ++ [s]) := by unfold shut; rw [if_pos hf]
  rw [go_lead, hM, hs, List.nil_append, List.drop_drop]
  rcases Nat.lt_or_ge (k + m) l.length with hlt | hge
  · rw [drop_getD l (k + m) hlt, go_else ?_ ?_, e]
    · have h1 := lead_end (l.drop k) (by rw [hM, List.length_drop]; omega)
      rw [hM] at h1
      simpa [List.getD] using h1
    · rcases h with h | h
      · omega
      · unfold byteAt at h; omega
  · rw [List.drop_eq_nil_of_le hge, go, e]
theorem RowPostF.good {w w' : World} {n : Nat} {xs : List (List UInt8)} (hb : Below w.heap.size w w') {A : Option Addr} {c : Nat} (hc : xs.length ≤ c) (hr : SRow w' A xs.length xs) (hf : Fresh w.heap.size A xs.length) :
    RowPostF w (0, n, xs) (.returned (.tuple #[.slice A xs.length c, .int .i64 (n : Int), .int .i64 0])) w' :=
  ⟨A, c, rfl, hc, hr, hb, hf⟩

def RowJ (w : World) (A : Option Addr) (n c p : Nat) (pre : Bool) (R : Option Addr) (N C : Nat) (l : List UInt8) (a' : Act) (w' : World) : Prop :=
  ∃ (acc : List (List UInt8)) (k : Nat) (v : Value) (u10 u11 u12 u13 u14 u15 u16 u17 u18 u19 u20 u21 u22 u23 u24 u25 u26 u27 u28 u29 u30 u31 u32 u33 u34 u35 u36 u37 u38 u39 u40 u41 u42 u43 u44 u45 u46 u47 u48 u49 u50 u51 u52 u53 u54 u55 u56 u57 u58 u59 u60 u61 u62 : Value), Below w.heap.size w w' ∧ w'.ownsRow w.heap.size 9 1 v acc.length (strs acc) ∧ acc.length ≤ 16 ∧ k ≤ N ∧ go pre (l.drop k) [] acc k = go pre l [] [] 0 ∧
    a' = { tmps := #[.slice A n c, .int .i64 p, .bool pre, undef, undef, undef, v, .int .i64 k, .int .i64 0, .slice R N C, u10, u11, u12, u13, u14, u15, u16, u17, u18, u19, u20, u21, u22, u23, u24, u25, u26, u27, u28, u29, u30, u31, u32, u33, u34, u35, u36, u37, u38, u39, u40, u41, u42, u43, u44, u45, u46, u47, u48, u49, u50, u51, u52, u53, u54, u55, u56, u57, u58, u59, u60, u61, u62], defers := [] }
def RowM (N : Nat) (a' : Act) (_ : World) : Nat := N - (intOf (a'.tmps.getD 7 undef)).toNat

set_option maxRecDepth 100000 in
set_option maxHeartbeats 1600000 in
theorem row_in (A : Option Addr) (n c : Nat) (l0 : List UInt8) (p : Nat) (pre : Bool) (w : World) (h : Row w A n l0) (hc : n ≤ c) (hp : p ≤ n) :
    Calls Tryz.prog 194 #[.slice A n c, .int .i64 p, .bool pre] w (RowPostF w (row l0 p pre)) := by
  have hm := h.2.1
  unfold maxLen at hm
  have hp0 : ¬ (p : Int) < 0 := by omega
  have hp1 : ¬ n < p := by omega
  obtain ⟨R, hR⟩ : ∃ R, (if c = p then A else A.map (fun x => x.add p)) = R := ⟨_, rfl⟩
  obtain ⟨l, hl⟩ : ∃ l, l0.drop p = l := ⟨_, rfl⟩
  have HE : Hid (row l0 p pre = go pre l [] [] 0) := by
    unfold Hid row; rw [if_neg (by rw [h.1]; omega), Int.toNat_natCast, hl]
  have R1 : Row w R (n - p) l := hl ▸ Row.from_ h p c hp hc hR
  rw [HE.out]
  clear h HE hl
  obtain ⟨N, hN⟩ : ∃ N, n - p = N := ⟨_, rfl⟩
  obtain ⟨C, hC⟩ : ∃ C, c - p = C := ⟨_, rfl⟩
  have hNC : N ≤ C := by omega
  have hNm : N ≤ 9223372036854775807 := by omega
  rw [hN] at R1
  have HR1 := Lib.hid R1
  have HLen := Lib.hid R1.1
  clear R1
  go_enter Tryz.func194, Tryz.ntmps194
  go_wp2
  refine wp_scope_back 0 (RowJ w A n c p pre R N C l) (RowM N) rfl ?_ ?_
  · rintro a' w1 ⟨acc, k, v, u10, u11, u12, u13, u14, u15, u16, u17, u18, u19, u20, u21, u22, u23, u24, u25, u26, u27, u28, u29, u30, u31, u32, u33, u34, u35, u36, u37, u38, u39, u40, u41, u42, u43, u44, u45, u46, u47, u48, u49, u50, u51, u52, u53, u54, u55, u56, u57, u58, u59, u60, u61, u62, hb1, hown, hacc, hk, hgo, rfl⟩
    have HRW := Lib.hid (HR1.out.kept hb1)
    obtain ⟨VA, VC, rfl, hvc, _⟩ := SRow.of_own hown
    clear hR hN hC
    obtain ⟨m, hM⟩ : ∃ m, lead (l.drop k) = m := ⟨_, rfl⟩
    have hkm : k + m ≤ N := by have := lead_le (l.drop k); rw [hM, List.length_drop, HLen.out] at this; omega
    obtain ⟨S, hS⟩ : ∃ S, (if C = k then R else R.map (fun x => x.add k)) = S := ⟨_, rfl⟩
    have RA := Row.from_ HRW.out k C hk hNC hS
    have RB := Row.part_ HRW.out k m C hkm hNC hS
    obtain ⟨s, hs⟩ : ∃ s, (l.drop k).take m = s := ⟨_, rfl⟩
    rw [hs] at RB
    have hsl := RB.1
    have htx := run_text RB (C - k)
    have HA := Lib.hid RA
    have HM := Lib.hid hM
    have HSl := Lib.hid hsl
    have HSS := Lib.hid hs
    have HB1 := Lib.hid hb1
    have HO := Lib.hid hown
    have HG := Lib.hid hgo
    clear RA RB hM hsl hs hb1 hown hgo
    have hz1 := HB1.out.size
    go_wp2_with fail
    refine (length_any _ _ _ _ _ HA.out).mono ?_
    rintro e w' ⟨rfl, rfl⟩
    rw [HM.out]
    go_wp2_with fail
    refine (fault_any (mk s) acc.length pre _ (by rw [mk_size, HSl.out]; unfold maxLen; omega) (by unfold maxLen; omega)).mono ?_
    rintro e w2 ⟨rfl, hb2⟩
    rw [mk_list]
    have HBD := Lib.hid (go_step_bad (pre := pre) (acc := acc) HM.out HSS.out)
    have HPT := Lib.hid (fun hf => go_step_point (pre := pre) (acc := acc) HM.out HSS.out hf)
    have HEN := Lib.hid (fun hf => go_step_end (pre := pre) (acc := acc) HM.out HSS.out hf)
    have HPL0 : Hid (fault s acc.length pre = 0 → acc.length + 1 ≤ 16) := fun h => (fault_pos h).2.2
    obtain ⟨f, hf⟩ : ∃ f, fault s acc.length pre = f := ⟨_, rfl⟩
    rw [hf] at HBD HPT HEN HPL0 ⊢
    clear hf
    by_cases hf0 : f = 0
    · subst hf0
      have HPL := Lib.hid (HPL0.out rfl)
      have HPT2 := Lib.hid (HPT.out rfl)
      have HEN2 := Lib.hid (HEN.out rfl)
      clear HBD HPT HEN
      have hz2 := hb2.size
      have HO2 : Hid ((w2.alloc (.cells #[.string (mk s)] 9)).ownsRow w.heap.size 9 1 (.slice VA acc.length VC) acc.length (strs acc)) := (own_below HO.out hb2).alloc _
      have HB2 := Lib.hid ((HB1.out.trans (hb2.mono hz1)).alloc (Nat.le_trans hz1 hz2) (.cells #[.string (mk s)] 9))
      have hms : (mk s).size = m := HSl.out
      have hacc2 : acc.length + 1 ≤ 16 := HPL.out
      clear hS htx
      by_cases hlt : k + m < N
      · obtain ⟨b, o, rfl, hb, hcell⟩ := HR1.out.2.2 (by omega)
        have HX := Lib.hid (hcell (k + m) hlt)
        have hbd := byteAt_bd l (k + m)
        clear hcell
        have HPT3 := Lib.hid (fun h => HPT2.out (by rw [HLen.out]; exact hlt) h)
        have HEN3 := Lib.hid (fun h => HEN2.out (.inr h))
        clear HPT2 HEN2 HRW
        generalize byteAt l (k + m) = x at HX hbd HPT3 HEN3
        by_cases h46 : x = 46
        · subst h46
          have HPT4 := Lib.hid (HPT3.out rfl)
          clear HPT3 HEN3
          go_wp2_with (first
            | (at_builtin; refine wpList_append_strs _ rfl _ _ rfl w.heap.size _ acc.length acc rfl HO2.out (some ⟨w2.heap.size, 0, none⟩) 1 1 [s] rfl (SRow.one w2 s) (fun h => by cases h) (by omega) (by simp; omega) ?_; intro v3 w3 ho3 hb3; obtain ⟨VA3, VC3, rfl, hvc3, hr3⟩ := SRow.of_own ho3; have HB3 := Lib.hid (HB2.out.trans hb3); have HO3 := Lib.hid ho3; have HR3 := Lib.hid hr3; clear ho3 hb3 hr3; have hx := (HB3.out.cell (p := ⟨b, o + (k + m), none⟩) hb).trans HX.out)
            | fail)
          go_step3
          rw [show ((k : Int) + (m : Int) + 1) = ((k + m + 1 : Nat) : Int) from rfl]
          refine ⟨rfl, ⟨acc ++ [s], k + m + 1, .slice VA3 (acc.length + 1) VC3, _, _, _, _, _, _, _, _, _, _, _, _, _, _, _, _, _, _, _, _, _, _, _, _, _, _, _, _, _, _, _, _, _, _, _, _, _, _, _, _, _, _, _, _, _, _, _, _, _, _, _, _, _, HB3.out, ?_, ?_, by omega, ?_, rfl⟩, ?_⟩
          · rw [List.length_append]; exact HO3.out
          · rw [List.length_append]; exact hacc2
          · rw [← HPT4.out]; exact HG.out
          · simp [RowM, intOf]; omega
        · have HEN4 := Lib.hid (HEN3.out h46)
          have hb46 : (x == 46) = false := by simp [h46]
          clear HPT3 HEN3 h46
          go_wp2_with (first
            | (at_builtin; refine wpList_append_strs _ rfl _ _ rfl w.heap.size _ acc.length acc rfl HO2.out (some ⟨w2.heap.size, 0, none⟩) 1 1 [s] rfl (SRow.one w2 s) (fun h => by cases h) (by omega) (by simp; omega) ?_; intro v3 w3 ho3 hb3; obtain ⟨VA3, VC3, rfl, hvc3, hr3⟩ := SRow.of_own ho3; have HB3 := Lib.hid (HB2.out.trans hb3); have HO3 := Lib.hid ho3; have HR3 := Lib.hid hr3; clear ho3 hb3 hr3; have hx := (HB3.out.cell (p := ⟨b, o + (k + m), none⟩) hb).trans HX.out)
            | fail)
          simp only [Exit.jump]
          go_ret3
          rw [← HG.out, HEN4.out]
          have e1 : (acc ++ [s]).length = acc.length + 1 := by simp
          have := RowPostF.good (n := k + m) HB3.out (A := VA3) (c := VC3) (xs := acc ++ [s]) (by rw [e1]; exact hvc3) (by rw [e1]; exact HR3.out) (by rw [e1]; exact Fresh.of_own HO3.out)
          rw [e1] at this
          exact this
      · have HEN4 := Lib.hid (HEN2.out (.inl (by rw [HLen.out]; omega)))
        clear HPT2 HEN2 HRW
        go_wp2_with (first
          | (at_builtin; refine wpList_append_strs _ rfl _ _ rfl w.heap.size _ acc.length acc rfl HO2.out (some ⟨w2.heap.size, 0, none⟩) 1 1 [s] rfl (SRow.one w2 s) (fun h => by cases h) (by omega) (by simp; omega) ?_; intro v3 w3 ho3 hb3; obtain ⟨VA3, VC3, rfl, hvc3, hr3⟩ := SRow.of_own ho3; have HB3 := Lib.hid (HB2.out.trans hb3); have HO3 := Lib.hid ho3; have HR3 := Lib.hid hr3; clear ho3 hb3 hr3)
          | fail)
        simp only [Exit.jump]
        go_ret3
        rw [← HG.out, HEN4.out]
        have e1 : (acc ++ [s]).length = acc.length + 1 := by simp
        have := RowPostF.good (n := k + m) HB3.out (A := VA3) (c := VC3) (xs := acc ++ [s]) (by rw [e1]; exact hvc3) (by rw [e1]; exact HR3.out) (by rw [e1]; exact Fresh.of_own HO3.out)
        rw [e1] at this
        exact this
    · have HBD2 := Lib.hid (HBD.out hf0)
      have HB2 := Lib.hid (HB1.out.trans (hb2.mono hz1))
      go_wp2
      simp only [Exit.jump]
      go_ret3
      rw [← HG.out, HBD2.out]
      exact RowPostF.bad HB2.out
  · intro HP
    go_wp2
    go_step3
    rename_i hK
    exact hK _ _ (HP.out _ _ ⟨[], 0, .slice none 0 0, _, _, _, _, _, _, _, _, _, _, _, _, _, _, _, _, _, _, _, _, _, _, _, _, _, _, _, _, _, _, _, _, _, _, _, _, _, _, _, _, _, _, _, _, _, _, _, _, _, _, _, _, _, Below.refl _ _, World.ownsRow_nil _ _ _ _, by simp, by omega, rfl, rfl⟩)

theorem row_anyF (A : Option Addr) (n c : Nat) (l : List UInt8) (p : Int) (pre : Bool) (w : World) (h : Row w A n l) (hc : n ≤ c) :
    Calls Tryz.prog 194 #[.slice A n c, .int .i64 p, .bool pre] w (RowPostF w (row l p pre)) := by
  by_cases ho : p < 0 ∨ (n : Int) < p
  · exact row_out A n c l p pre w h ho
  · obtain ⟨k, rfl⟩ := Int.eq_ofNat_of_zero_le (show 0 ≤ p by omega)
    exact row_in A n c l k pre w h hc (by omega)
end Go.Proofs.YtgfbflnhjpbceaaGreatDoor.Ident

namespace Go.Proofs.YtgfbflnhjpbceaaGreatDoor.Semver
open Go.RowKit Num Ident

set_option maxRecDepth 100000 in
set_option maxHeartbeats 800000 in
theorem readRow_pre (A : Option Addr) (n c : Nat) (l : List UInt8) (p : Nat) (w : World) (h : Row w A n l) (hc : n ≤ c) (hp : p ≤ n) :
    Calls Tryz.prog 182 #[.slice A n c, .int .i64 p, .int .u8 45] w (RowPostF w (rowAt l p 45)) := by
  have hm := h.2.1
  unfold maxLen at hm
  have HR := Lib.hid h
  have HL := Lib.hid h.1
  have HC := Lib.hid h.2.2
  clear h
  by_cases h0 : p = n
  · have HF := Lib.hid (rowAt_none (l := l) (p := p) (m := 45) (.inl (by rw [HL.out]; exact h0)))
    subst h0
    have hb : ((p : Int) == (p : Int)) = true := by simp
    rw [HF.out]
    go_enter Tryz.func182, Tryz.ntmps182
    go_wp2
    go_ret3
    exact ⟨none, 0, rfl, Nat.le_refl _, SRow.none_ _ _, Below.refl _ _, Fresh.none_ _ _⟩
  · have hlt : p < n := by omega
    have hb : ((p : Int) == (n : Int)) = false := by simp; omega
    have H0 : Hid (p ≠ l.length) := by unfold Hid; rw [HL.out]; exact h0
    obtain ⟨b, o, rfl, hbl, hcell⟩ := HC.out (by omega)
    have hx := hcell p hlt
    clear hcell HC h0
    have hbd := byteAt_bd l p
    have HN := Lib.hid (fun h => rowAt_none (l := l) (p := p) (m := 45) (.inr h))
    have HY := Lib.hid (fun h => rowAt_some (l := l) (p := p) (m := 45) H0.out h)
    generalize byteAt l p = x at hx hbd HN HY
    by_cases hxm : x = 45
    · have HF := Lib.hid (HY.out (by exact hxm))
      have h1 : (x != 45) = false := by simp [hxm]
      clear hxm HN HY
      rw [HF.out]
      have HQ := Lib.hid (fun W hW => row_anyF (some ⟨b, o, none⟩) n c l ((p + 1 : Nat) : Int) true W hW hc)
      rw [show ((45 : Nat) == 45) = true from rfl]
      obtain ⟨⟨E, N, xs⟩, hr⟩ : ∃ t, row l ((p + 1 : Nat) : Int) true = t := ⟨_, rfl⟩
      have HE := Lib.hid (row_end l (p + 1) true (by rw [HL.out]; exact hlt))
      rw [hr] at HQ HE ⊢
      clear hr HF
      have hE : p + 1 + N ≤ n := by have := HE.out; rw [HL.out] at this; exact this
      go_enter Tryz.func182, Tryz.ntmps182
      go_wp2_with fail
      refine (HQ.out _ HR.out).mono ?_
      rintro e w1 ⟨A1, c1, rfl, hc1, hr1, hb1, hf1⟩
      simp only at hc1 hr1 hf1 ⊢
      have HR1 := Lib.hid hr1
      have HB1 := Lib.hid hb1
      clear hr1 hb1
      go_wp2
      go_ret3
      exact ⟨A1, c1, by simp, hc1, HR1.out, HB1.out, hf1⟩
    · have HF := Lib.hid (HN.out (by exact hxm))
      have h1 : (x != 45) = true := by simp [hxm]
      clear hxm HN HY
      rw [HF.out]
      go_enter Tryz.func182, Tryz.ntmps182
      go_wp2
      go_ret3
      exact ⟨none, 0, rfl, Nat.le_refl _, SRow.none_ _ _, Below.refl _ _, Fresh.none_ _ _⟩

set_option maxRecDepth 100000 in
set_option maxHeartbeats 800000 in
theorem readRow_build (A : Option Addr) (n c : Nat) (l : List UInt8) (p : Nat) (w : World) (h : Row w A n l) (hc : n ≤ c) (hp : p ≤ n) :
    Calls Tryz.prog 182 #[.slice A n c, .int .i64 p, .int .u8 43] w (RowPostF w (rowAt l p 43)) := by
  have hm := h.2.1
  unfold maxLen at hm
  have HR := Lib.hid h
  have HL := Lib.hid h.1
  have HC := Lib.hid h.2.2
  clear h
  by_cases h0 : p = n
  · have HF := Lib.hid (rowAt_none (l := l) (p := p) (m := 43) (.inl (by rw [HL.out]; exact h0)))
    subst h0
    have hb : ((p : Int) == (p : Int)) = true := by simp
    rw [HF.out]
    go_enter Tryz.func182, Tryz.ntmps182
    go_wp2
    go_ret3
    exact ⟨none, 0, rfl, Nat.le_refl _, SRow.none_ _ _, Below.refl _ _, Fresh.none_ _ _⟩
  · have hlt : p < n := by omega
    have hb : ((p : Int) == (n : Int)) = false := by simp; omega
    have H0 : Hid (p ≠ l.length) := by unfold Hid; rw [HL.out]; exact h0
    obtain ⟨b, o, rfl, hbl, hcell⟩ := HC.out (by omega)
    have hx := hcell p hlt
    clear hcell HC h0
    have hbd := byteAt_bd l p
    have HN := Lib.hid (fun h => rowAt_none (l := l) (p := p) (m := 43) (.inr h))
    have HY := Lib.hid (fun h => rowAt_some (l := l) (p := p) (m := 43) H0.out h)
    generalize byteAt l p = x at hx hbd HN HY
    by_cases hxm : x = 43
    · have HF := Lib.hid (HY.out (by exact hxm))
      have h1 : (x != 43) = false := by simp [hxm]
      clear hxm HN HY
      rw [HF.out]
      have HQ := Lib.hid (fun W hW => row_anyF (some ⟨b, o, none⟩) n c l ((p + 1 : Nat) : Int) false W hW hc)
      rw [show ((43 : Nat) == 45) = false from rfl]
      obtain ⟨⟨E, N, xs⟩, hr⟩ : ∃ t, row l ((p + 1 : Nat) : Int) false = t := ⟨_, rfl⟩
      have HE := Lib.hid (row_end l (p + 1) false (by rw [HL.out]; exact hlt))
      rw [hr] at HQ HE ⊢
      clear hr HF
      have hE : p + 1 + N ≤ n := by have := HE.out; rw [HL.out] at this; exact this
      go_enter Tryz.func182, Tryz.ntmps182
      go_wp2_with fail
      refine (HQ.out _ HR.out).mono ?_
      rintro e w1 ⟨A1, c1, rfl, hc1, hr1, hb1, hf1⟩
      simp only at hc1 hr1 hf1 ⊢
      have HR1 := Lib.hid hr1
      have HB1 := Lib.hid hb1
      clear hr1 hb1
      go_wp2
      go_ret3
      exact ⟨A1, c1, by simp, hc1, HR1.out, HB1.out, hf1⟩
    · have HF := Lib.hid (HN.out (by exact hxm))
      have h1 : (x != 43) = true := by simp [hxm]
      clear hxm HN HY
      rw [HF.out]
      go_enter Tryz.func182, Tryz.ntmps182
      go_wp2
      go_ret3
      exact ⟨none, 0, rfl, Nat.le_refl _, SRow.none_ _ _, Below.refl _ _, Fresh.none_ _ _⟩

/-- The same, and that the rows' blocks are new. -/
def VerPostF (w : World) (r : Out) (e : Ending) (w' : World) : Prop :=
  ∃ A c B d, e = .returned (.tuple #[.agg #[.int .u64 (r.2.2.a : Int), .int .u64 (r.2.2.b : Int), .int .u64 (r.2.2.c : Int), .slice A r.2.2.pre.length c, .slice B r.2.2.build.length d], .int .i64 (r.2.1 : Int), .int .i64 (r.1 : Int)]) ∧
    r.2.2.pre.length ≤ c ∧ r.2.2.build.length ≤ d ∧ SRow w' A r.2.2.pre.length r.2.2.pre ∧ SRow w' B r.2.2.build.length r.2.2.build ∧ Below w.heap.size w w' ∧ Fresh w.heap.size A r.2.2.pre.length ∧ Fresh w.heap.size B r.2.2.build.length
theorem VerPostF.bad {w w' : World} {q f : Nat} (hb : Below w.heap.size w w') : VerPostF w (f, q, noVer) (.returned (.tuple #[.agg #[.int .u64 0, .int .u64 0, .int .u64 0, .slice none 0 0, .slice none 0 0], .int .i64 (q : Int), .int .i64 (f : Int)])) w' :=
  ⟨none, 0, none, 0, rfl, Nat.le_refl _, Nat.le_refl _, SRow.none_ _ _, SRow.none_ _ _, hb, Fresh.none_ _ _, Fresh.none_ _ _⟩

set_option maxRecDepth 100000 in
set_option maxHeartbeats 800000 in
theorem parse_out (A : Option Addr) (n c : Nat) (l : List UInt8) (p : Int) (w : World) (h : Row w A n l) (ho : p < 0 ∨ (n : Int) < p) :
    Calls Tryz.prog 171 #[.slice A n c, .int .i64 p] w (VerPostF w (vparse l p)) := by
  have HE : Hid (vparse l p = (1, 0, noVer)) := by
    unfold Hid vparse; rw [if_pos (by rw [h.1]; exact ho)]
  rw [HE.out]
  clear h HE
  by_cases h0 : p < 0
  · go_enter Tryz.func171, Tryz.ntmps171
    go_wp2
    exact bodyPost_ret (v := .tuple #[.agg #[.int .u64 0, .int .u64 0, .int .u64 0, .slice none 0 0, .slice none 0 0], .int .i64 0, .int .i64 1]) (by simp [results, Tryz.results171, go_sem]) rfl (VerPostF.bad (q := 0) (f := 1) ((Below.refl _ _).alloc (Nat.le_refl _) _))
  · have h1 : (n : Int) < p := by omega
    clear ho
    go_enter Tryz.func171, Tryz.ntmps171
    go_wp2
    exact bodyPost_ret (v := .tuple #[.agg #[.int .u64 0, .int .u64 0, .int .u64 0, .slice none 0 0, .slice none 0 0], .int .i64 0, .int .i64 1]) (by simp [results, Tryz.results171, go_sem]) rfl (VerPostF.bad (q := 0) (f := 1) ((Below.refl _ _).alloc (Nat.le_refl _) _))

set_option maxRecDepth 100000 in
set_option maxHeartbeats 1600000 in
theorem parse_in (A : Option Addr) (n c : Nat) (l : List UInt8) (p : Nat) (w : World) (h : Row w A n l) (hc : n ≤ c) (hp : p ≤ n) :
    Calls Tryz.prog 171 #[.slice A n c, .int .i64 p] w (VerPostF w (vparse l p)) := by
  have hm := h.2.1
  unfold maxLen at hm
  have HR := Lib.hid h
  have HL := Lib.hid h.1
  have HE : Hid (vparse l p = inside l p) := by
    unfold Hid vparse; rw [if_neg (by rw [h.1]; omega), Int.toNat_natCast]
  rw [HE.out]
  clear h HE
  have hp0 : ¬ (p : Int) < 0 := by omega
  have hp1 : ¬ n < p := by omega
  have HB0 : Hid (Below w.heap.size w (w.alloc (.cells #[.int .u64 0, .int .u64 0, .int .u64 0, .slice none 0 0, .slice none 0 0] 25))) := (Below.refl _ _).alloc (Nat.le_refl _) _
  obtain ⟨⟨f, q, x, y, z⟩, hk⟩ : ∃ t, core l p = t := ⟨_, rfl⟩
  have HQ := Lib.hid (core_end l p (by rw [HL.out]; exact hp))
  have HI : Hid (inside l p = if f ≠ 0 then (f, q, noVer) else tail1 l x y z q) := by unfold Hid inside; rw [hk]
  have HO : Hid (coreOut (core l p) = .tuple #[.agg #[.int .u64 (x : Int), .int .u64 (y : Int), .int .u64 (z : Int)], .int .i64 (q : Int), .int .i64 (f : Int)]) := by unfold Hid; rw [hk]; rfl
  rw [hk] at HQ
  have hq : q ≤ n := by have := HQ.out; rw [HL.out] at this; exact this
  clear hk HQ
  go_enter Tryz.func171, Tryz.ntmps171
  go_wp2_with fail
  refine (readCore_any _ _ _ l p _ (HR.out.kept HB0.out) hc hp).mono ?_
  rw [HO.out]
  rintro e w1 ⟨rfl, hb1⟩
  have hz1 : w.heap.size + 1 ≤ w1.heap.size := by have := hb1.size; simpa using this
  have HV1 : Hid (At5 w1 w.heap.size (.int .u64 0) (.int .u64 0) (.int .u64 0) (.slice none 0 0) (.slice none 0 0)) := (At5.new w 25 _ _ _ _ _).kept hb1 (by simp)
  have HC1 : Hid (At3 (w1.alloc (.cells #[.int .u64 (x : Int), .int .u64 (y : Int), .int .u64 (z : Int)] 99)) w1.heap.size (.int .u64 (x : Int)) (.int .u64 (y : Int)) (.int .u64 (z : Int))) := At3.new w1 99 _ _ _
  have HB1w : Hid (Below w.heap.size w w1) := HB0.out.trans (hb1.mono (by simp))
  have HB1 : Hid (Below w.heap.size w (w1.alloc (.cells #[.int .u64 (x : Int), .int .u64 (y : Int), .int .u64 (z : Int)] 99))) := (HB0.out.trans (hb1.mono (by simp))).alloc (by omega) _
  clear hb1
  by_cases h0 : f = 0
  · subst h0
    have HI2 : Hid (inside l p = tail1 l x y z q) := HI.out.trans (if_neg (by simp))
    clear HI
    have HP2 := Lib.hid (fun W hW => readRow_pre A n c l q W hW hc hq)
    have HQ := Lib.hid (rowAt_end l q 45 (by rw [HL.out]; exact hq))
    have HT : Hid (tail1 l x y z q = if (rowAt l q 45).1 ≠ 0 then ((rowAt l q 45).1, (rowAt l q 45).2.1, noVer) else tail2 l x y z (rowAt l q 45).2.2 (rowAt l q 45).2.1) := rfl
    obtain ⟨⟨f, q2, xs⟩, hr⟩ : ∃ t, rowAt l q 45 = t := ⟨_, rfl⟩
    rw [hr] at HP2 HQ HT
    clear hr
    have hq2 : q2 ≤ n := by have := HQ.out; rw [HL.out] at this; exact this
    go_wp2_with fail
    refine (HP2.out _ (HR.out.kept HB1.out)).mono ?_
    rintro e w2 ⟨A2, c2, rfl, hc2, hr2, hb2, hf2⟩
    simp only at hc2 hr2 hf2 ⊢
    replace hf2 := hf2.mono (B' := w.heap.size) (by simp; omega)
    have hz2 : w1.heap.size + 1 ≤ w2.heap.size := by have := hb2.size; simpa using this
    have HB2 := Lib.hid (HB1.out.trans (hb2.mono (by simp; omega)))
    have HV2 : Hid (At5 w2 w.heap.size (.int .u64 0) (.int .u64 0) (.int .u64 0) (.slice none 0 0) (.slice none 0 0)) := (HV1.out.kept ((Below.refl _ _).alloc (Nat.le_refl _) _) (by omega)).kept hb2 (by simp; omega)
    have HC2 := Lib.hid (HC1.out.kept hb2 (by simp))
    have HR2 := Lib.hid hr2
    clear hb2 hr2 HV1 HC1
    by_cases h0 : f = 0
    · subst h0
      have HI3 : Hid (inside l p = tail2 l x y z xs q2) := HI2.out.trans (HT.out.trans (if_neg (by simp)))
      clear HT HI2
      have HP3 := Lib.hid (fun W hW => readRow_build A n c l q2 W hW hc hq2)
      have HQ3 := Lib.hid (rowAt_end l q2 43 (by rw [HL.out]; exact hq2))
      have HT : Hid (tail2 l x y z xs q2 = if (rowAt l q2 43).1 ≠ 0 then ((rowAt l q2 43).1, (rowAt l q2 43).2.1, noVer) else (0, (rowAt l q2 43).2.1, ⟨x, y, z, xs, (rowAt l q2 43).2.2⟩)) := rfl
      obtain ⟨⟨f, q3, ys⟩, hr⟩ : ∃ t, rowAt l q2 43 = t := ⟨_, rfl⟩
      rw [hr] at HP3 HQ3 HT
      clear hr
      go_wp2_with fail
      refine (HP3.out _ (HR.out.kept HB2.out)).mono ?_
      rintro e w3 ⟨A3, c3, rfl, hc3, hr3, hb3, hf3⟩
      simp only at hc3 hr3 hf3 ⊢
      replace hf3 := hf3.mono (B' := w.heap.size) (by omega)
      have hz3 : w2.heap.size ≤ w3.heap.size := hb3.size
      have HB3 := Lib.hid (HB2.out.trans (hb3.mono (by omega)))
      have HV3 := Lib.hid (HV2.out.kept hb3 (by omega))
      have HC3 := Lib.hid (HC2.out.kept hb3 (by omega))
      have HR3 := Lib.hid hr3
      have HR2' := Lib.hid (HR2.out.kept hb3)
      clear hb3 hr3 HV2 HC2
      by_cases h0 : f = 0
      · subst h0
        have HI4 : Hid (inside l p = (0, q3, ⟨x, y, z, xs, ys⟩)) := HI3.out.trans (HT.out.trans (if_neg (by simp)))
        clear HT HI3
        obtain ⟨hvl, hvf, hv0, hv1, hv2, hv3, hv4⟩ := HV3.out
        obtain ⟨hcl, hcf, hk0, hk1, hk2⟩ := HC3.out
        have HA := Lib.hid (HR2'.out.set5 hv0 hv1 hv2 hv3 hv4 (by simp) (by simp) (by simp) (by simp) (by simp) (.int .u64 (x : Int)) (.int .u64 (y : Int)) (.int .u64 (z : Int)) (.slice A2 xs.length c2) (.slice A3 ys.length c3))
        have HB := Lib.hid (HR3.out.set5 hv0 hv1 hv2 hv3 hv4 (by simp) (by simp) (by simp) (by simp) (by simp) (.int .u64 (x : Int)) (.int .u64 (y : Int)) (.int .u64 (z : Int)) (.slice A2 xs.length c2) (.slice A3 ys.length c3))
        go_wp2
        exact bodyPost_ret (v := .tuple #[.agg #[.int .u64 (x : Int), .int .u64 (y : Int), .int .u64 (z : Int), .slice A2 xs.length c2, .slice A3 ys.length c3], .int .i64 (q3 : Int), .int .i64 0]) (by simp [results, Tryz.results171, go_sem, hv0, hv1, hv2, hv3, hv4]) rfl (by rw [HI4.out]; exact ⟨A2, c2, A3, c3, rfl, hc2, hc3, HA.out, HB.out, (((((HB3.out.setCell (by simp) _).setCell (by simp) _).setCell (by simp) _).setCell (by simp) _).setCell (by simp) _), hf2, hf3⟩)
      · have HI4 : Hid (inside l p = (f, q3, noVer)) := HI3.out.trans (HT.out.trans (if_pos h0))
        clear HT HI3
        have hb1 : ((f : Int) != 0) = true := by simp [h0]
        have hb2 : ((f : Int) == 0) = false := by simp [h0]
        clear h0
        obtain ⟨hvl, hvf, hv0, hv1, hv2, hv3, hv4⟩ := HV3.out
        have hne := Nat.ne_of_lt hvl
        go_wp2
        exact bodyPost_ret (v := .tuple #[.agg #[.int .u64 0, .int .u64 0, .int .u64 0, .slice none 0 0, .slice none 0 0], .int .i64 (q3 : Int), .int .i64 (f : Int)]) (by simp [results, Tryz.results171, go_sem, hv0, hv1, hv2, hv3, hv4]) rfl (by rw [HI4.out]; exact VerPostF.bad (((((HB3.out.setCell (by simp) _).setCell (by simp) _).setCell (by simp) _).setCell (by simp) _).setCell (by simp) _))
    · have HI3 : Hid (inside l p = (f, q2, noVer)) := HI2.out.trans (HT.out.trans (if_pos h0))
      clear HT HI2
      have hb1 : ((f : Int) != 0) = true := by simp [h0]
      have hb2 : ((f : Int) == 0) = false := by simp [h0]
      clear h0
      obtain ⟨hvl, hvf, hv0, hv1, hv2, hv3, hv4⟩ := HV2.out
      have hne := Nat.ne_of_lt hvl
      go_wp2
      exact bodyPost_ret (v := .tuple #[.agg #[.int .u64 0, .int .u64 0, .int .u64 0, .slice none 0 0, .slice none 0 0], .int .i64 (q2 : Int), .int .i64 (f : Int)]) (by simp [results, Tryz.results171, go_sem, hv0, hv1, hv2, hv3, hv4]) rfl (by rw [HI3.out]; exact VerPostF.bad (((((HB2.out.setCell (by simp) _).setCell (by simp) _).setCell (by simp) _).setCell (by simp) _).setCell (by simp) _))
  · have HI2 : Hid (inside l p = (f, q, noVer)) := HI.out.trans (if_pos h0)
    clear HI
    have hb1 : ((f : Int) != 0) = true := by simp [h0]
    have hb2 : ((f : Int) == 0) = false := by simp [h0]
    clear h0
    obtain ⟨hvl, hvf, hv0, hv1, hv2, hv3, hv4⟩ := HV1.out
    have hne := Nat.ne_of_lt hvl
    go_wp2
    exact bodyPost_ret (v := .tuple #[.agg #[.int .u64 0, .int .u64 0, .int .u64 0, .slice none 0 0, .slice none 0 0], .int .i64 (q : Int), .int .i64 (f : Int)]) (by simp [results, Tryz.results171, go_sem, hv0, hv1, hv2, hv3, hv4, hvl]) rfl (by rw [HI2.out]; exact VerPostF.bad ((((((HB1w.out.setCell (by simp) _).setCell (by simp) _).setCell (by simp) _).setCell (by simp) _).setCell (by simp) _).alloc (by simp; omega) _))

theorem parse_anyF (A : Option Addr) (n c : Nat) (l : List UInt8) (p : Int) (w : World) (h : Row w A n l) (hc : n ≤ c) :
    Calls Tryz.prog 171 #[.slice A n c, .int .i64 p] w (VerPostF w (vparse l p)) := by
  by_cases ho : p < 0 ∨ (n : Int) < p
  · exact parse_out A n c l p w h ho
  · obtain ⟨k, rfl⟩ := Int.eq_ofNat_of_zero_le (show 0 ≤ p by omega)
    exact parse_in A n c l k w h hc (by omega)

end Go.Proofs.YtgfbflnhjpbceaaGreatDoor.Semver

namespace Go.Proofs.YtgfbflnhjpbceaaGreatDoor.Range
open Go.RowKit Num Ident Semver

theorem fit_good {v : Ver} (h : goodV v = true) : FitV v := by
  unfold goodV at h
  rw [Bool.and_eq_true, Bool.and_eq_true] at h
  obtain ⟨h1, h2, h3⟩ := h
  have hh := of_decide_eq_true h1
  unfold maxField at hh
  have b1 := goodFrom_bound _ _ h2
  have b2 := goodFrom_bound _ _ h3
  have l1 : v.pre.length ≤ 16 := by
    by_cases e : v.pre = []
    · rw [e]; simp
    · have := b1.1 e; omega
  have l2 : v.build.length ≤ 16 := by
    by_cases e : v.build = []
    · rw [e]; simp
    · have := b2.1 e; omega
  exact ⟨by omega, by omega, by omega, by unfold maxLen; omega, by unfold maxLen; omega, fun x hx => by have := b1.2 x hx; unfold maxLen; omega, fun x hx => by have := b2.2 x hx; unfold maxLen; omega⟩
theorem vparse_at (l s : List UInt8) (p : Nat) (h : Pl l p s) : vparse l p = ((vparse s 0).1, p + (vparse s 0).2.1, (vparse s 0).2.2) := by
  have h1 := vparse_place (l.take p) s
  have h2 : (l.take p).length = p := by rw [List.length_take]; have := h.le; omega
  have h3 : l.take p ++ s = l := by rw [h.eq, List.take_append_drop]
  rw [h2, h3] at h1
  exact h1
theorem At5.moved {W W' : World} {b B : Nat} {u0 u1 u2 u3 u4 : Value} (h : At5 W B u0 u1 u2 u3 u4) (hm : Moved b W W') (hne : B ≠ b) : At5 W' B u0 u1 u2 u3 u4 := by
  obtain ⟨h1, h2, c0, c1, c2, c3, c4⟩ := h
  have k := hm.block B h1 hne
  have kc : ∀ o, W'.cell? ⟨B, o, none⟩ = W.cell? ⟨B, o, none⟩ := fun o => World.cell?_of_block (w := W) (a := ⟨B, o, none⟩) k
  exact ⟨Nat.lt_of_lt_of_le h1 hm.size, fun o => (World.frozen?_of_block (w := W) (a := ⟨B, o, none⟩) k).trans (h2 o), (kc 0).trans c0, (kc 1).trans c1, (kc 2).trans c2, (kc 3).trans c3, (kc 4).trans c4⟩
/-- Five stores into a block of the call's own. -/
theorem moved_set5 {b bv : Nat} {u w : World} (h : Moved b u w) (hb : b < u.heap.size) (hv : u.heap.size ≤ bv) (v0 v1 v2 v3 v4 : Value) : Moved b u (set5 w bv v0 v1 v2 v3 v4) := by
  unfold set5
  exact ((((h.set hb (p := ⟨bv, 0, none⟩) hv _).set hb (p := ⟨bv, 1, none⟩) hv _).set hb (p := ⟨bv, 2, none⟩) hv _).set hb (p := ⟨bv, 3, none⟩) hv _).set hb (p := ⟨bv, 4, none⟩) hv _
theorem rd_set5 {w : World} {b bv : Nat} {A : Option Addr} {n c p : Nat} (h : Rd w b A n c p) (hv : b < bv) (v0 v1 v2 v3 v4 : Value) : Rd (set5 w bv v0 v1 v2 v3 v4) b A n c p := by
  unfold set5
  exact ((((h.set (q := ⟨bv, 0, none⟩) hv _).set (q := ⟨bv, 1, none⟩) hv _).set (q := ⟨bv, 2, none⟩) hv _).set (q := ⟨bv, 3, none⟩) hv _).set (q := ⟨bv, 4, none⟩) hv _
theorem at7_set5 {w : World} {B bv : Nat} {u0 u1 u2 u3 u4 u5 u6 : Value} (h : At7 w B u0 u1 u2 u3 u4 u5 u6) (hv : B < bv) (v0 v1 v2 v3 v4 : Value) : At7 (set5 w bv v0 v1 v2 v3 v4) B u0 u1 u2 u3 u4 u5 u6 := by
  unfold set5
  exact h.kept (B := bv) (((((((Below.refl bv w).setCell (p := ⟨bv, 0, none⟩) (Nat.le_refl _) _).setCell (p := ⟨bv, 1, none⟩) (Nat.le_refl _) _).setCell (p := ⟨bv, 2, none⟩) (Nat.le_refl _) _).setCell (p := ⟨bv, 3, none⟩) (Nat.le_refl _) _).setCell (p := ⟨bv, 4, none⟩) (Nat.le_refl _) _)) hv
theorem ver_block {w W : World} {b bv : Nat} (hbw : b < w.heap.size) {A : Option Addr} {n c p : Nat} {v : Ver} {A1 B1 : Option Addr} {c1 d1 : Nat} (hR : Rd W b A n c p) (hM : Moved b w W) (hA : SRow W A1 v.pre.length v.pre) (hB : SRow W B1 v.build.length v.build) (h5 : At5 W bv (.int .u64 0) (.int .u64 0) (.int .u64 0) (.slice none 0 0) (.slice none 0 0)) (hv : w.heap.size < bv) (h7 : At7 W w.heap.size (.int .i64 0) (.int .u64 0) (.int .u64 0) (.int .u64 0) (.slice none 0 0) (.slice none 0 0) (.slice none 0 0)) :
    At5 (set5 W bv (.int .u64 (v.a : Int)) (.int .u64 (v.b : Int)) (.int .u64 (v.c : Int)) (.slice A1 v.pre.length c1) (.slice B1 v.build.length d1)) bv (.int .u64 (v.a : Int)) (.int .u64 (v.b : Int)) (.int .u64 (v.c : Int)) (.slice A1 v.pre.length c1) (.slice B1 v.build.length d1) ∧ Rd (set5 W bv (.int .u64 (v.a : Int)) (.int .u64 (v.b : Int)) (.int .u64 (v.c : Int)) (.slice A1 v.pre.length c1) (.slice B1 v.build.length d1)) b A n c p ∧ Moved b w (set5 W bv (.int .u64 (v.a : Int)) (.int .u64 (v.b : Int)) (.int .u64 (v.c : Int)) (.slice A1 v.pre.length c1) (.slice B1 v.build.length d1)) ∧ SRow (set5 W bv (.int .u64 (v.a : Int)) (.int .u64 (v.b : Int)) (.int .u64 (v.c : Int)) (.slice A1 v.pre.length c1) (.slice B1 v.build.length d1)) A1 v.pre.length v.pre ∧ SRow (set5 W bv (.int .u64 (v.a : Int)) (.int .u64 (v.b : Int)) (.int .u64 (v.c : Int)) (.slice A1 v.pre.length c1) (.slice B1 v.build.length d1)) B1 v.build.length v.build ∧ At7 (set5 W bv (.int .u64 (v.a : Int)) (.int .u64 (v.b : Int)) (.int .u64 (v.c : Int)) (.slice A1 v.pre.length c1) (.slice B1 v.build.length d1)) w.heap.size (.int .i64 0) (.int .u64 0) (.int .u64 0) (.int .u64 0) (.slice none 0 0) (.slice none 0 0) (.slice none 0 0) := by
  obtain ⟨hvl, hvf, g0, g1, g2, g3, g4⟩ := h5
  have h5 : At5 W bv (.int .u64 0) (.int .u64 0) (.int .u64 0) (.slice none 0 0) (.slice none 0 0) := ⟨hvl, hvf, g0, g1, g2, g3, g4⟩
  have hb : b < bv := by
    by_cases h : b < w.heap.size
    · omega
    · exact absurd hbw h
  exact ⟨h5.set5 _ _ _ _ _, rd_set5 hR hb _ _ _ _ _, moved_set5 hM hbw (Nat.le_of_lt hv) _ _ _ _ _, hA.set5 g0 g1 g2 g3 g4 (by simp) (by simp) (by simp) (by simp) (by simp) _ _ _ _ _, hB.set5 g0 g1 g2 g3 g4 (by simp) (by simp) (by simp) (by simp) (by simp) _ _ _ _ _, at7_set5 h7 hv _ _ _ _ _⟩
set_option maxRecDepth 100000 in
set_option maxHeartbeats 6400000 in
theorem ver_any (b : Nat) (A : Option Addr) (n c p : Nat) (l s : List UInt8) (kind : Int) (w : World) (hR : Rd w b A n c p) (hr : Row w A n l) (hc : n ≤ c) (hs : Pl l p s) :
    Calls Tryz.prog 160 #[.pointer (some ⟨b, 0, none⟩), .int .i64 kind] w (RgPost b A n c l w (verAt kind s)) := by
  have hm := hr.2.1
  unfold maxLen at hm
  have hbw := hR.lt
  have HP := Lib.hid hs
  have HL := Lib.hid hr.1
  have HRw := Lib.hid hR
  have HRow := Lib.hid hr
  have H7 : Hid (At7 (w.alloc (.cells #[.int .i64 0, .int .u64 0, .int .u64 0, .int .u64 0, .slice none 0 0, .slice none 0 0, .slice none 0 0] 28)) w.heap.size (.int .i64 0) (.int .u64 0) (.int .u64 0) (.int .u64 0) (.slice none 0 0) (.slice none 0 0) (.slice none 0 0)) := At7.new _ _ _ _ _ _ _ _ _
  have HR0 : Hid (Rd (w.alloc (.cells #[.int .i64 0, .int .u64 0, .int .u64 0, .int .u64 0, .slice none 0 0, .slice none 0 0, .slice none 0 0] 28)) b A n c p) := hR.alloc _
  have HM : Hid (Moved b w (w.alloc (.cells #[.int .i64 0, .int .u64 0, .int .u64 0, .int .u64 0, .slice none 0 0, .slice none 0 0, .slice none 0 0] 28))) := (Moved.refl b w).alloc hbw _
  have HRow0 : Hid (Row (w.alloc (.cells #[.int .i64 0, .int .u64 0, .int .u64 0, .int .u64 0, .slice none 0 0, .slice none 0 0, .slice none 0 0] 28)) A n l) := hr.kept ((Below.refl _ _).alloc (Nat.le_refl _) _)
  clear hR hr hs
  go_enter Tryz.func160, Tryz.ntmps160
  go_wp2_with fail
  refine (oneOf_any b A n c p l s digits _ HR0.out HRow0.out HP.out).mono ?_
  rintro e W0 ⟨rfl, hR1, hM1⟩
  replace HRow0 := Lib.hid (row_keep HRow0.out (HR0.out.keep hM1))
  replace H7 := Lib.hid (At7.moved H7.out hM1 (by omega))
  replace HM := Lib.hid (HM.out.trans hM1)
  replace HR0 := Lib.hid hR1
  have hz : w.heap.size < W0.heap.size := H7.out.1
  clear hR1 hM1
  cases hst : oneOf digits s with
  | false =>
    have HV : Hid (verAt kind s = (lackN s, s, noRng)) := by unfold Hid verAt; rw [hst]; rfl
    go_wp2_with fail
    refine (lack_any b A n c p l s _ HR0.out HRow0.out HP.out).mono ?_
    rintro e W1 ⟨rfl, hR1, hM1⟩
    have H71 := Lib.hid (At7.moved H7.out hM1 (by omega))
    have HMM := Lib.hid (HM.out.trans hM1)
    have HRR := Lib.hid hR1
    have hne := Nat.ne_of_gt hbw
    clear hR1 hM1
    obtain ⟨y1, y2, c0, c1, c2, c3, c4, c5, c6⟩ := H71.out
    go_wp2
    exact bodyPost_ret (v := .tuple #[.agg #[.int .i64 0, .int .u64 0, .int .u64 0, .int .u64 0, .slice none 0 0, .slice none 0 0, .slice none 0 0], .int .i64 (lackN s : Int)]) (by simp [results, Tryz.results160, go_sem, c0, c1, c2, c3, c4, c5, c6]) rfl (by rw [HV.out]; exact rg_end (x := zeroRV 0) hbw (Lies.zero _ _ 0) HP.out HRR.out HMM.out)
  | true =>
    have HPA : Hid (∀ W, Row W A n l → Calls Tryz.prog 171 #[.slice A n c, .int .i64 (p : Int)] W (VerPostF W ((vparse s 0).1, p + (vparse s 0).2.1, (vparse s 0).2.2))) := fun W hW => by
      have := Semver.parse_anyF A n c l (p : Int) W hW hc
      rw [vparse_at l s p HP.out] at this
      exact this
    have HQ := Lib.hid (vparse_end s 0)
    have HV : Hid (verAt kind s = if (vparse s 0).1 ≠ 0 then ((vparse s 0).1, s.drop (vparse s 0).2.1, noRng) else (0, blanks (s.drop (vparse s 0).2.1), .mk kind (vparse s 0).2.2 [])) := by
      unfold Hid verAt; rw [if_pos hst]
    have HG : Hid (∀ q v, vparse s 0 = (0, q, v) → FitV v) := fun q v h => fit_good (vparse_read h).1
    obtain ⟨⟨f, q, v⟩, hk⟩ : ∃ t, vparse s 0 = t := ⟨_, rfl⟩
    rw [hk] at HPA HV HQ HG
    simp only at HPA HV HQ
    clear hk
    go_upto_region 3 with (fail)
    go_cut [6, 7, 8] (fun v6 v7 v8 wx => ∃ bv A1 c1 B1 d1, v6 = .pointer (some ⟨bv, 0, none⟩) ∧ v7 = .int .i64 ((p + q : Nat) : Int) ∧ v8 = .int .i64 (f : Int) ∧ w.heap.size < bv ∧ v.pre.length ≤ c1 ∧ v.build.length ≤ d1 ∧ At5 wx bv (.int .u64 (v.a : Int)) (.int .u64 (v.b : Int)) (.int .u64 (v.c : Int)) (.slice A1 v.pre.length c1) (.slice B1 v.build.length d1) ∧ Rd wx b A n c p ∧ Moved b w wx ∧ SRow wx A1 v.pre.length v.pre ∧ SRow wx B1 v.build.length v.build ∧ At7 wx w.heap.size (.int .i64 0) (.int .u64 0) (.int .u64 0) (.int .u64 0) (.slice none 0 0) (.slice none 0 0) (.slice none 0 0) ∧ Fresh (w.heap.size + 1) A1 v.pre.length ∧ Fresh (w.heap.size + 1) B1 v.build.length)
    case first =>
      have H0 : Hid (Rd W0.drew b A n c p) := HR0.out.drew
      have HW0 : Hid (Row W0.drew A n l) := HRow0.out
      have HM0 : Hid (Moved b w W0.drew) := HM.out.drew
      have H70 : Hid (At7 W0.drew w.heap.size (.int .i64 0) (.int .u64 0) (.int .u64 0) (.int .u64 0) (.slice none 0 0) (.slice none 0 0) (.slice none 0 0)) := H7.out
      have hz0 : w.heap.size < W0.drew.heap.size := hz
      refine wp_region_held_drew (S := fun w' => w'.cell? ⟨b, 0, none⟩ = some (.slice A n c) ∧ w'.cell? ⟨b, 1, none⟩ = some (.int .i64 (p : Int))) (by kernel_rfl) ⟨H0.out.row, H0.out.at_⟩ (fun hHeld => ?_)
      refine wpAnyH_take (i := 0) (oi := { dst := some 16, op := Op.move (Operand.tmp 0), type := 137, pos := _, after := _, guard := none }) (v := .pointer (some ⟨b, 0, none⟩)) rfl (by kernel_rfl) (by kernel_rfl) (by kernel_rfl) (fun _ _ _ h => h) (Or.inl ⟨by rfl, fun w' hS' => by go_simp⟩) (by assumption) ?_
      simp only [Act.put, List.setIfInBounds_toArray, List.set_cons_zero, List.set_cons_succ]
      refine wpAnyH_take (i := 1) (oi := { dst := some 17, op := Op.nilCheck (Operand.tmp 16), type := 0, pos := _, after := _, guard := none }) (v := .pointer (some ⟨b, 0, none⟩)) rfl (by kernel_rfl) (by kernel_rfl) (by kernel_rfl) (fun _ _ _ h => h) (Or.inl ⟨by rfl, fun w' hS' => by go_simp⟩) (by assumption) ?_
      simp only [Act.put, List.setIfInBounds_toArray, List.set_cons_zero, List.set_cons_succ]
      refine wpAnyH_take (i := 2) (oi := { dst := some 18, op := Op.fieldAddr 115 (Operand.tmp 17) 0, type := 0, pos := _, after := _, guard := none }) (v := .pointer (some ⟨b, 0, none⟩)) rfl (by kernel_rfl) (by kernel_rfl) (by kernel_rfl) (fun _ _ _ h => h) (Or.inl ⟨by rfl, fun w' hS' => by go_simp⟩) (by assumption) ?_
      simp only [Act.put, List.setIfInBounds_toArray, List.set_cons_zero, List.set_cons_succ]
      refine wpAnyH_take (i := 3) (oi := { dst := some 19, op := Op.load 68 (Operand.tmp 18), type := 68, pos := _, after := _, guard := none }) (v := .slice A n c) rfl (by kernel_rfl) (by kernel_rfl) (by kernel_rfl) (fun _ _ _ h => h) (Or.inl ⟨by rfl, fun w' hS' => by have x := hS'.1; go_simp⟩) (by assumption) ?_
      simp only [Act.put, List.setIfInBounds_toArray, List.set_cons_zero, List.set_cons_succ]
      refine wpAnyH_take (i := 4) (oi := { dst := some 20, op := Op.move (Operand.tmp 0), type := 137, pos := _, after := _, guard := none }) (v := .pointer (some ⟨b, 0, none⟩)) rfl (by kernel_rfl) (by kernel_rfl) (by kernel_rfl) (fun _ _ _ h => h) (Or.inl ⟨by rfl, fun w' hS' => by go_simp⟩) (by assumption) ?_
      simp only [Act.put, List.setIfInBounds_toArray, List.set_cons_zero, List.set_cons_succ]
      refine wpAnyH_take (i := 5) (oi := { dst := some 21, op := Op.nilCheck (Operand.tmp 20), type := 0, pos := _, after := _, guard := none }) (v := .pointer (some ⟨b, 0, none⟩)) rfl (by kernel_rfl) (by kernel_rfl) (by kernel_rfl) (fun _ _ _ h => h) (Or.inl ⟨by rfl, fun w' hS' => by go_simp⟩) (by assumption) ?_
      simp only [Act.put, List.setIfInBounds_toArray, List.set_cons_zero, List.set_cons_succ]
      refine wpAnyH_take (i := 6) (oi := { dst := some 22, op := Op.fieldAddr 115 (Operand.tmp 21) 1, type := 0, pos := _, after := _, guard := none }) (v := .pointer (some ⟨b, 1, none⟩)) rfl (by kernel_rfl) (by kernel_rfl) (by kernel_rfl) (fun _ _ _ h => h) (Or.inl ⟨by rfl, fun w' hS' => by go_simp⟩) (by assumption) ?_
      simp only [Act.put, List.setIfInBounds_toArray, List.set_cons_zero, List.set_cons_succ]
      refine wpAnyH_take (i := 7) (oi := { dst := some 23, op := Op.load 3 (Operand.tmp 22), type := 3, pos := _, after := _, guard := none }) (v := .int .i64 (p : Int)) rfl (by kernel_rfl) (by kernel_rfl) (by kernel_rfl) (fun _ _ _ h => h) (Or.inl ⟨by rfl, fun w' hS' => by have x := hS'.2; go_simp⟩) (by assumption) ?_
      simp only [Act.put, List.setIfInBounds_toArray, List.set_cons_zero, List.set_cons_succ]
      refine wpAnyH_ready (rs := [8, 13]) (by kernel_rfl) (by simp) ?_
      refine AllReadyH.cons (o := { dst := some 24, op := Op.call { callee := Callee.value (Operand.func 171), args := #[Operand.tmp 19, Operand.tmp 23], argTypes := #[68, 3] }, type := 184, pos := _, after := _, guard := none }) rfl (fun K hK => ?_) (AllReadyH.cons (o := { dst := some 6, op := Op.alloc 25, type := 0, pos := _, after := _, guard := none }) rfl (fun K hK => ?_) AllReadyH.nil)
      · go_simp
        refine (HPA.out _ HW0.out).mono ?_
        rintro e W1 ⟨A1, c1, B1, d1, rfl, hc1, hd1, hr1, hr2, hb1, hf1, hf2⟩
        simp only at hc1 hd1 hr1 hr2 hf1 hf2 ⊢
        have HR1 : Hid (Rd W1 b A n c p) := H0.out.kept hb1 H0.out.lt
        have HM1 : Hid (Moved b w W1) := HM0.out.below hb1 HM0.out.size hbw
        have HA1 := Lib.hid hr1
        have HB1 := Lib.hid hr2
        have H71 := Lib.hid (H70.out.kept hb1 hz0)
        have hz1 : w.heap.size < W1.heap.size := Nat.lt_of_lt_of_le hz0 hb1.size
        have HF1 : Hid (Fresh (w.heap.size + 1) A1 v.pre.length) := hf1.mono hz0
        have HF2 : Hid (Fresh (w.heap.size + 1) B1 v.build.length) := hf2.mono hz0
        clear hr1 hr2 hb1 hf1 hf2
        clear hHeld
        refine hK.out _ _ ⟨HR1.out.row, HR1.out.at_⟩ (fun hHeld => ?_)
        clear hK K
        try simp only [Act.put, List.setIfInBounds_toArray, List.set_cons_zero, List.set_cons_succ]
        refine wpAnyH_take (i := 9) (oi := { dst := some 15, op := Op.move (Operand.tmp 24), type := 184, pos := _, after := _, guard := none }) (v := .tuple #[.agg #[.int .u64 (v.a : Int), .int .u64 (v.b : Int), .int .u64 (v.c : Int), .slice A1 v.pre.length c1, .slice B1 v.build.length d1], .int .i64 ((p + q : Nat) : Int), .int .i64 (f : Int)]) rfl (by kernel_rfl) (by kernel_rfl) (by kernel_rfl) (fun _ _ _ h => h) (Or.inl ⟨by rfl, fun w' hS' => by go_simp⟩) (by assumption) ?_
        simp only [Act.put, List.setIfInBounds_toArray, List.set_cons_zero, List.set_cons_succ]
        refine wpAnyH_take (i := 10) (oi := { dst := some 25, op := Op.extract (Operand.tmp 15) 0, type := 25, pos := _, after := _, guard := none }) (v := .agg #[.int .u64 (v.a : Int), .int .u64 (v.b : Int), .int .u64 (v.c : Int), .slice A1 v.pre.length c1, .slice B1 v.build.length d1]) rfl (by kernel_rfl) (by kernel_rfl) (by kernel_rfl) (fun _ _ _ h => h) (Or.inl ⟨by rfl, fun w' hS' => by go_simp⟩) (by assumption) ?_
        simp only [Act.put, List.setIfInBounds_toArray, List.set_cons_zero, List.set_cons_succ]
        refine wpAnyH_take (i := 11) (oi := { dst := some 26, op := Op.extract (Operand.tmp 15) 1, type := 3, pos := _, after := _, guard := none }) (v := .int .i64 ((p + q : Nat) : Int)) rfl (by kernel_rfl) (by kernel_rfl) (by kernel_rfl) (fun _ _ _ h => h) (Or.inl ⟨by rfl, fun w' hS' => by go_simp⟩) (by assumption) ?_
        simp only [Act.put, List.setIfInBounds_toArray, List.set_cons_zero, List.set_cons_succ]
        refine wpAnyH_take (i := 12) (oi := { dst := some 27, op := Op.extract (Operand.tmp 15) 2, type := 46, pos := _, after := _, guard := none }) (v := .int .i64 (f : Int)) rfl (by kernel_rfl) (by kernel_rfl) (by kernel_rfl) (fun _ _ _ h => h) (Or.inl ⟨by rfl, fun w' hS' => by go_simp⟩) (by assumption) ?_
        simp only [Act.put, List.setIfInBounds_toArray, List.set_cons_zero, List.set_cons_succ]
        refine wpAnyH_ready (rs := [13]) (by kernel_rfl) (by simp) ?_
        refine AllReadyH.cons (o := { dst := some 6, op := Op.alloc 25, type := 0, pos := _, after := _, guard := none }) rfl (fun K hK => ?_) AllReadyH.nil
        go_simp
        have H5 : Hid (At5 (W1.alloc (.cells #[.int .u64 (v.a : Int), .int .u64 (v.b : Int), .int .u64 (v.c : Int), .slice A1 v.pre.length c1, .slice B1 v.build.length d1] 25)) W1.heap.size (.int .u64 (v.a : Int)) (.int .u64 (v.b : Int)) (.int .u64 (v.c : Int)) (.slice A1 v.pre.length c1) (.slice B1 v.build.length d1)) := At5.new _ _ _ _ _ _ _
        have HV2 : Hid (w.heap.size < W1.heap.size) := hz1
        clear hHeld
        refine hK.out _ _ ⟨(HR1.out.alloc (.cells #[.int .u64 0, .int .u64 0, .int .u64 0, .slice none 0 0, .slice none 0 0] 25)).row, (HR1.out.alloc (.cells #[.int .u64 0, .int .u64 0, .int .u64 0, .slice none 0 0, .slice none 0 0] 25)).at_⟩ (fun hHeld => ?_)
        clear hK K
        try simp only [Act.put, List.setIfInBounds_toArray, List.set_cons_zero, List.set_cons_succ]
        refine wpAnyH_ready (rs := [14]) (by kernel_rfl) (by simp) ?_
        refine AllReadyH.cons (o := { dst := none, op := Op.store 25 (Operand.tmp 6) (Operand.tmp 25), type := 0, pos := _, after := _, guard := none }) rfl (fun K hK => ?_) AllReadyH.nil
        go_simp
        have HR2 : Hid (Rd (W1.alloc (.cells #[.int .u64 (v.a : Int), .int .u64 (v.b : Int), .int .u64 (v.c : Int), .slice A1 v.pre.length c1, .slice B1 v.build.length d1] 25)) b A n c p) := HR1.out.alloc _
        have HM2 : Hid (Moved b w (W1.alloc (.cells #[.int .u64 (v.a : Int), .int .u64 (v.b : Int), .int .u64 (v.c : Int), .slice A1 v.pre.length c1, .slice B1 v.build.length d1] 25))) := HM1.out.alloc hbw _
        have HA2 := Lib.hid (HA1.out.kept ((Below.refl W1.heap.size W1).alloc (Nat.le_refl _) (.cells #[.int .u64 (v.a : Int), .int .u64 (v.b : Int), .int .u64 (v.c : Int), .slice A1 v.pre.length c1, .slice B1 v.build.length d1] 25)))
        have HB2 := Lib.hid (HB1.out.kept ((Below.refl W1.heap.size W1).alloc (Nat.le_refl _) (.cells #[.int .u64 (v.a : Int), .int .u64 (v.b : Int), .int .u64 (v.c : Int), .slice A1 v.pre.length c1, .slice B1 v.build.length d1] 25)))
        have H72 := Lib.hid (H71.out.kept ((Below.refl W1.heap.size W1).alloc (Nat.le_refl _) (.cells #[.int .u64 (v.a : Int), .int .u64 (v.b : Int), .int .u64 (v.c : Int), .slice A1 v.pre.length c1, .slice B1 v.build.length d1] 25)) hz1)
        clear hHeld
        refine hK.out _ _ ⟨HR2.out.row, HR2.out.at_⟩ (fun hHeld => ?_)
        clear hK K
        try simp only [Act.put, List.setIfInBounds_toArray, List.set_cons_zero, List.set_cons_succ]
        refine wpAnyH_take (i := 15) (oi := { dst := some 7, op := Op.assign (Operand.tmp 26), type := 3, pos := _, after := _, guard := none }) (v := .int .i64 ((p + q : Nat) : Int)) rfl (by kernel_rfl) (by kernel_rfl) (by kernel_rfl) (fun _ _ _ h => h) (Or.inl ⟨by rfl, fun w' hS' => by go_simp⟩) (by assumption) ?_
        simp only [Act.put, List.setIfInBounds_toArray, List.set_cons_zero, List.set_cons_succ]
        refine wpAnyH_take (i := 16) (oi := { dst := some 8, op := Op.assign (Operand.tmp 27), type := 46, pos := _, after := _, guard := none }) (v := .int .i64 (f : Int)) rfl (by kernel_rfl) (by kernel_rfl) (by kernel_rfl) (fun _ _ _ h => h) (Or.inl ⟨by rfl, fun w' hS' => by go_simp⟩) (by assumption) ?_
        simp only [Act.put, List.setIfInBounds_toArray, List.set_cons_zero, List.set_cons_succ]
        refine wpAnyH_done (by kernel_rfl) ?_ _
        go_wp2
        go_meet
        exact ⟨_, A1, c1, B1, d1, rfl, rfl, rfl, HV2.out, hc1, hd1, H5.out, HR2.out, HM2.out, HA2.out, HB2.out, H72.out, HF1.out, HF2.out⟩
      · go_simp
        have H5a : Hid (At5 ((W0.alloc (.cells #[.int .u64 0, .int .u64 0, .int .u64 0, .slice none 0 0, .slice none 0 0] 25)).drew) W0.heap.size (.int .u64 0) (.int .u64 0) (.int .u64 0) (.slice none 0 0) (.slice none 0 0)) := (At5.new W0 25 (.int .u64 0) (.int .u64 0) (.int .u64 0) (.slice none 0 0) (.slice none 0 0))
        have HV2 : Hid (w.heap.size < W0.heap.size) := hz
        have HRa : Hid (Rd ((W0.alloc (.cells #[.int .u64 0, .int .u64 0, .int .u64 0, .slice none 0 0, .slice none 0 0] 25)).drew) b A n c p) := (HR0.out.alloc _).drew
        have HMa : Hid (Moved b w ((W0.alloc (.cells #[.int .u64 0, .int .u64 0, .int .u64 0, .slice none 0 0, .slice none 0 0] 25)).drew)) := (HM.out.alloc hbw _).drew
        have HWa : Hid (Row ((W0.alloc (.cells #[.int .u64 0, .int .u64 0, .int .u64 0, .slice none 0 0, .slice none 0 0] 25)).drew) A n l) := row_keep (HRow0.out.kept ((Below.refl _ _).alloc (Nat.le_refl _) _)) (Keep.drew _)
        have H7a : Hid (At7 ((W0.alloc (.cells #[.int .u64 0, .int .u64 0, .int .u64 0, .slice none 0 0, .slice none 0 0] 25)).drew) w.heap.size (.int .i64 0) (.int .u64 0) (.int .u64 0) (.int .u64 0) (.slice none 0 0) (.slice none 0 0) (.slice none 0 0)) := H7.out.kept ((Below.refl W0.heap.size W0).alloc (Nat.le_refl _) (.cells #[.int .u64 0, .int .u64 0, .int .u64 0, .slice none 0 0, .slice none 0 0] 25)).drew hz
        have hza : W0.heap.size < ((W0.alloc (.cells #[.int .u64 0, .int .u64 0, .int .u64 0, .slice none 0 0, .slice none 0 0] 25)).drew).heap.size := by show _ < (W0.heap.push _).size; simp
        clear hHeld
        refine hK.out _ _ ⟨HRa.out.row, HRa.out.at_⟩ (fun hHeld => ?_)
        clear hK K
        try simp only [Act.put, List.setIfInBounds_toArray, List.set_cons_zero, List.set_cons_succ]
        refine wpAnyH_ready (rs := [8]) (by kernel_rfl) (by simp) ?_
        refine AllReadyH.cons (o := { dst := some 24, op := Op.call { callee := Callee.value (Operand.func 171), args := #[Operand.tmp 19, Operand.tmp 23], argTypes := #[68, 3] }, type := 184, pos := _, after := _, guard := none }) rfl (fun K hK => ?_) AllReadyH.nil
        go_simp
        refine (HPA.out _ HWa.out).mono ?_
        rintro e W1 ⟨A1, c1, B1, d1, rfl, hc1, hd1, hr1, hr2, hb1, hf1, hf2⟩
        simp only at hc1 hd1 hr1 hr2 hf1 hf2 ⊢
        have HR2 : Hid (Rd W1 b A n c p) := HRa.out.kept hb1 HRa.out.lt
        have HM2 : Hid (Moved b w W1) := HMa.out.below hb1 HMa.out.size hbw
        have HA2 := Lib.hid hr1
        have HB2 := Lib.hid hr2
        have H72 := Lib.hid (H7a.out.kept hb1 (Nat.lt_trans HV2.out hza))
        have H5 := Lib.hid (H5a.out.kept hb1 hza)
        have HF1 : Hid (Fresh (w.heap.size + 1) A1 v.pre.length) := hf1.mono (Nat.le_trans HV2.out (Nat.le_of_lt hza))
        have HF2 : Hid (Fresh (w.heap.size + 1) B1 v.build.length) := hf2.mono (Nat.le_trans HV2.out (Nat.le_of_lt hza))
        clear hr1 hr2 hb1 hf1 hf2
        clear hHeld
        refine hK.out _ _ ⟨HR2.out.row, HR2.out.at_⟩ (fun hHeld => ?_)
        clear hK K
        try simp only [Act.put, List.setIfInBounds_toArray, List.set_cons_zero, List.set_cons_succ]
        refine wpAnyH_take (i := 9) (oi := { dst := some 15, op := Op.move (Operand.tmp 24), type := 184, pos := _, after := _, guard := none }) (v := .tuple #[.agg #[.int .u64 (v.a : Int), .int .u64 (v.b : Int), .int .u64 (v.c : Int), .slice A1 v.pre.length c1, .slice B1 v.build.length d1], .int .i64 ((p + q : Nat) : Int), .int .i64 (f : Int)]) rfl (by kernel_rfl) (by kernel_rfl) (by kernel_rfl) (fun _ _ _ h => h) (Or.inl ⟨by rfl, fun w' hS' => by go_simp⟩) (by assumption) ?_
        simp only [Act.put, List.setIfInBounds_toArray, List.set_cons_zero, List.set_cons_succ]
        refine wpAnyH_take (i := 10) (oi := { dst := some 25, op := Op.extract (Operand.tmp 15) 0, type := 25, pos := _, after := _, guard := none }) (v := .agg #[.int .u64 (v.a : Int), .int .u64 (v.b : Int), .int .u64 (v.c : Int), .slice A1 v.pre.length c1, .slice B1 v.build.length d1]) rfl (by kernel_rfl) (by kernel_rfl) (by kernel_rfl) (fun _ _ _ h => h) (Or.inl ⟨by rfl, fun w' hS' => by go_simp⟩) (by assumption) ?_
        simp only [Act.put, List.setIfInBounds_toArray, List.set_cons_zero, List.set_cons_succ]
        refine wpAnyH_take (i := 11) (oi := { dst := some 26, op := Op.extract (Operand.tmp 15) 1, type := 3, pos := _, after := _, guard := none }) (v := .int .i64 ((p + q : Nat) : Int)) rfl (by kernel_rfl) (by kernel_rfl) (by kernel_rfl) (fun _ _ _ h => h) (Or.inl ⟨by rfl, fun w' hS' => by go_simp⟩) (by assumption) ?_
        simp only [Act.put, List.setIfInBounds_toArray, List.set_cons_zero, List.set_cons_succ]
        refine wpAnyH_take (i := 12) (oi := { dst := some 27, op := Op.extract (Operand.tmp 15) 2, type := 46, pos := _, after := _, guard := none }) (v := .int .i64 (f : Int)) rfl (by kernel_rfl) (by kernel_rfl) (by kernel_rfl) (fun _ _ _ h => h) (Or.inl ⟨by rfl, fun w' hS' => by go_simp⟩) (by assumption) ?_
        simp only [Act.put, List.setIfInBounds_toArray, List.set_cons_zero, List.set_cons_succ]
        obtain ⟨hvl, hvf, g0, g1, g2, g3, g4⟩ := H5.out
        refine wpAnyH_ready (rs := [14]) (by kernel_rfl) (by simp) ?_
        refine AllReadyH.cons (o := { dst := none, op := Op.store 25 (Operand.tmp 6) (Operand.tmp 25), type := 0, pos := _, after := _, guard := none }) rfl (fun K hK => ?_) AllReadyH.nil
        go_simp
        obtain ⟨k1, k2, k3, k4, k5, k6⟩ := ver_block hbw (v := v) (c1 := c1) (d1 := d1) HR2.out HM2.out HA2.out HB2.out H5.out HV2.out H72.out
        have HK5 := Lib.hid k1
        have HKR := Lib.hid k2
        have HKM := Lib.hid k3
        have HKA := Lib.hid k4
        have HKB := Lib.hid k5
        have HK7 := Lib.hid k6
        clear k1 k2 k3 k4 k5 k6
        clear hHeld
        refine hK.out _ _ ⟨HKR.out.row, HKR.out.at_⟩ (fun hHeld => ?_)
        clear hK K
        try simp only [Act.put, List.setIfInBounds_toArray, List.set_cons_zero, List.set_cons_succ]
        refine wpAnyH_take (i := 15) (oi := { dst := some 7, op := Op.assign (Operand.tmp 26), type := 3, pos := _, after := _, guard := none }) (v := .int .i64 ((p + q : Nat) : Int)) rfl (by kernel_rfl) (by kernel_rfl) (by kernel_rfl) (fun _ _ _ h => h) (Or.inl ⟨by rfl, fun w' hS' => by go_simp⟩) (by assumption) ?_
        simp only [Act.put, List.setIfInBounds_toArray, List.set_cons_zero, List.set_cons_succ]
        refine wpAnyH_take (i := 16) (oi := { dst := some 8, op := Op.assign (Operand.tmp 27), type := 46, pos := _, after := _, guard := none }) (v := .int .i64 (f : Int)) rfl (by kernel_rfl) (by kernel_rfl) (by kernel_rfl) (fun _ _ _ h => h) (Or.inl ⟨by rfl, fun w' hS' => by go_simp⟩) (by assumption) ?_
        simp only [Act.put, List.setIfInBounds_toArray, List.set_cons_zero, List.set_cons_succ]
        refine wpAnyH_done (by kernel_rfl) ?_ _
        go_wp2
        go_meet
        exact ⟨_, A1, c1, B1, d1, rfl, rfl, rfl, HV2.out, hc1, hd1, HK5.out, HKR.out, HKM.out, HKA.out, HKB.out, HK7.out, HF1.out, HF2.out⟩
    case rest =>
      obtain ⟨bv, A1, c1, B1, d1, rfl, rfl, rfl, hbv, hc1, hd1, h5, hR2, hM2, hA2, hB2, h72, hf1, hf2⟩ := hcut
      have HF1 : Hid (InS (From (w.heap.size + 1)) A1 v.pre.length) := hf1
      have HF2 : Hid (InS (From (w.heap.size + 1)) B1 v.build.length) := hf2
      clear hf1 hf2
      have HA2 := Lib.hid hA2
      have HB2 := Lib.hid hB2
      have H52 := Lib.hid h5
      have H72 := Lib.hid h72
      have HR2 := Lib.hid hR2
      have HM2 := Lib.hid hM2
      clear hA2 hB2 h5 h72 hR2 hM2
      have HPQ : Hid (Pl l (p + q) (s.drop q)) := HP.out.drop (by have := HP.out.len; have h2 := HP.out.le; have h3 := HQ.out; omega)
      have hpq : p + q ≤ n := by have := HPQ.out.le; rw [HL.out] at this; exact this
      have hne : w.heap.size ≠ b := by omega
      obtain ⟨r1, r2, r3, r4, _⟩ := HR2.out
      obtain ⟨y1, y2, c0, c1', c2, c3, c4, c5, c6⟩ := H72.out
      by_cases h0 : f = 0
      · subst h0
        have HV2 : Hid (verAt kind s = (0, blanks (s.drop q), .mk kind v [])) := HV.out.trans (if_neg (by simp))
        have HG2 : Hid (FitV v) := HG.out q v rfl
        clear HV HG
        have HR3 : Hid (Rd (wc.setCell ⟨b, 1, none⟩ (.int .i64 ((p : Int) + (q : Int)))) b A n c (p + q)) := HR2.out.move (p + q)
        have HM3 : Hid (Moved b w (wc.setCell ⟨b, 1, none⟩ (.int .i64 ((p : Int) + (q : Int))))) := HM2.out.move _
        have HK3 : Hid (KeepS (From (w.heap.size + 1)) wc (wc.setCell ⟨b, 1, none⟩ (.int .i64 ((p : Int) + (q : Int))))) := KeepS.moved (Moved.at_ _) (fun h => by unfold From at h; omega)
        have HRow3 : Hid (Row (wc.setCell ⟨b, 1, none⟩ (.int .i64 ((p : Int) + (q : Int)))) A n l) := row_keep HRow.out (HRw.out.keep HM3.out)
        go_wp2_with fail
        refine (pass_any b A n c (p + q) 0 l (s.drop q) _ HR3.out HRow3.out HPQ.out hpq).mono ?_
        rintro e W4 ⟨rfl, q4, hq4, hR4, hM4⟩
        rw [List.drop_zero] at hq4
        have HP4 := Lib.hid hq4
        have HM4 := Lib.hid (HM3.out.trans hM4)
        have HK4 := Lib.hid (HK3.out.trans (KeepS.moved hM4 (fun h => by unfold From at h; omega)))
        have HR4 := Lib.hid hR4
        have HA4 := Lib.hid (srow_keepS HA2.out HK4.out HF1.out)
        have HB4 := Lib.hid (srow_keepS HB2.out HK4.out HF2.out)
        have H54 := Lib.hid (At5.moved (At5.moved H52.out (Moved.at_ (.int .i64 ((p : Int) + (q : Int)))) (by omega)) hM4 (by omega))
        have H74 : Hid (RAt W4 w.heap.size (zeroRV 0)) := RAt.moved (RAt.moved (x := zeroRV 0) H72.out (Moved.at_ (.int .i64 ((p : Int) + (q : Int)))) hne) hM4 hne
        clear hq4 hR4 hM4 HR3 HM3 HK3 HRow3 HR2 HM2 HA2 HB2 H52 H72 r1 r2 r3 r4 y1 y2 c0 c1' c2 c3 c4 c5 c6
        obtain ⟨y1, y2, c0, c1', c2, c3, c4, c5, c6⟩ := H74.out
        obtain ⟨_, _, g0, g1, g2, g3, g4⟩ := H54.out
        have hbe := Nat.ne_of_gt hbv
        go_wp2
        exact bodyPost_ret (v := .tuple #[.agg #[.int .i64 kind, .int .u64 (v.a : Int), .int .u64 (v.b : Int), .int .u64 (v.c : Int), .slice A1 v.pre.length c1, .slice B1 v.build.length d1, .slice none 0 0], .int .i64 0]) (by simp [results, Tryz.results160, go_sem, c0, c1', c2, c3, c4, c5, c6]) rfl (by rw [HV2.out]; exact rg_end (x := ⟨kind, v, A1, c1, B1, d1, none, 0, 0⟩) hbw (Lies.version kind v A1 c1 B1 d1 HA4.out HB4.out HF1.out HF2.out hc1 hd1 HG2.out) HP4.out HR4.out HM4.out)
      · have hb1 : ((f : Int) != 0) = true := by simp [h0]
        have hb2 : ((f : Int) == 0) = false := by simp [h0]
        have HV2 : Hid (verAt kind s = (f, s.drop q, noRng)) := HV.out.trans (if_pos h0)
        clear h0
        go_wp2
        exact bodyPost_ret (v := .tuple #[.agg #[.int .i64 0, .int .u64 0, .int .u64 0, .int .u64 0, .slice none 0 0, .slice none 0 0, .slice none 0 0], .int .i64 (f : Int)]) (by simp [results, Tryz.results160, go_sem, c0, c1', c2, c3, c4, c5, c6]) rfl (by rw [HV2.out]; exact rg_end (x := zeroRV 0) hbw (Lies.zero _ _ 0) HPQ.out (HR2.out.move (p + q)) (HM2.out.move _))
end Go.Proofs.YtgfbflnhjpbceaaGreatDoor.Range
