/-
  What the theorem of the last text needs of these: NmPlain, NmAgainMath, NmCut. Conditions: as each theorem states.
-/
import Derived.Test.YtgfbflnhjpbceaaGreatDoorAgaB1
import Derived.Test.YtgfbflnhjpbceaaGreatDoorAgaB8
import Derived.Test.YtgfbflnhjpbceaaGreatDoorAgaB12
import Derived.Test.YtgfbflnhjpbceaaGreatDoorAgaB13
import Derived.Test.YtgfbflnhjpbceaaGreatDoorAgaB21
set_option maxRecDepth 100000
set_option maxHeartbeats 25600000
namespace Go.Proofs.YtgfbflnhjpbceaaGreatDoor.Nrm
open Go.RowKit Num Ident Semver Prec Span
open Range (Rng noRng goodR goodL fits wt wtL)

def isPoint (a b : Cut) : Bool := decide (a.kind = 1 ∧ b.kind = 2 ∧ cmpV a.v b.v = 0)
theorem isPoint_iff (a b : Cut) : isPoint a b = true ↔ a.kind = 1 ∧ b.kind = 2 ∧ cmpV a.v b.v = 0 := by simp [isPoint]
def few (kind : Int) (l : List Rng) : Rng := if l.length = 0 then noRng else if l.length = 1 then l.getD 0 noRng else .mk kind noVer l
def loPart (c : Cut) : List Rng := if c.kind = 1 then [.mk 1 c.v []] else if c.kind = 2 then [.mk 2 c.v []] else []
def hiPart (c : Cut) : List Rng := if c.kind = 1 then [.mk 4 c.v []] else if c.kind = 2 then [.mk 3 c.v []] else []
def neOf (s : Sp) : Rng := .mk 6 s.hi.v []
def lastOf (l : List Sp) : Sp := l.getD (l.length - 1) default
def parts (l : List Sp) : List Rng := loPart (l.getD 0 default).lo ++ hiPart (lastOf l).hi ++ (l.take (l.length - 1)).map neOf
def pieceR (l : List Sp) : Rng := if isPoint (l.getD 0 default).lo (l.getD 0 default).hi = true then .mk 5 (l.getD 0 default).lo.v [] else few 9 (parts l)
def grp : List Sp → List Sp → List (List Sp)
 | row, [] => [row]
 | row, s :: rest => if isPoint (lastOf row).hi s.lo = true then grp (row ++ [s]) rest else row :: grp [s] rest
def piecesR : List Sp → List Rng
 | [] => []
 | s :: l => (grp [s] l).map pieceR
def plainR (l : List Sp) : Rng := if l.length = 0 then .mk 11 noVer [noRng] else few 10 (piecesR l)

theorem few_none (kind : Int) : few kind [] = noRng := rfl
theorem few_one (kind : Int) (r : Rng) : few kind [r] = r := rfl
theorem few_more (kind : Int) {l : List Rng} (h : 2 ≤ l.length) : few kind l = .mk kind noVer l := by unfold few; rw [if_neg (by omega), if_neg (by omega)]
theorem few_cases {l : List Rng} (P : List Rng → Prop) (h0 : P []) (h1 : ∀ r, P [r]) (h2 : 2 ≤ l.length → P l) : P l := by
 match l, h2 with
 | [], _ => exact h0
 | [r], _ => exact h1 r
 | a :: b :: l, h2 => exact h2 (by simp)
theorem inC_zero (c : Cut) : inC noRng c ↔ inOne ⟨low, high⟩ c := by
 show inC (.mk 0 noVer []) c ↔ _
 rw [inC_ver (by omega) (by omega)]
 exact ⟨fun h => h.1, fun h => ⟨h, h⟩⟩
theorem few_and (l : List Rng) (c : Cut) : inC (few 9 l) c ↔ inOne ⟨low, high⟩ c ∧ ∀ x ∈ l, inC x c := by
 refine few_cases (fun l => inC (few 9 l) c ↔ inOne ⟨low, high⟩ c ∧ ∀ x ∈ l, inC x c) ?_ (fun r => ?_) (fun h => ?_)
 ·rw [few_none, inC_zero]; simp
 ·rw [few_one]; simp only [List.mem_singleton, forall_eq]
  exact ⟨fun h => ⟨inC_all h, h⟩, fun h => h.2⟩
 ·rw [few_more 9 h, inC_and]
theorem few_or {l : List Rng} (hl : l ≠ []) (c : Cut) : inC (few 10 l) c ↔ ∃ x ∈ l, inC x c := by
 revert hl
 refine few_cases (fun l => l ≠ [] → (inC (few 10 l) c ↔ ∃ x ∈ l, inC x c)) (fun h => absurd rfl h) (fun r _ => ?_) (fun h _ => ?_)
 ·rw [few_one]; simp
 ·rw [few_more 10 h, inC_or]

theorem inS_cons (s : Sp) (l : List Sp) (c : Cut) : inS (s :: l) c ↔ inOne s c ∨ inS l c := by
 constructor
 ·rintro ⟨x, hx, h⟩
  rcases List.mem_cons.1 hx with rfl | hx
  ·exact .inl h
  ·exact .inr ⟨x, hx, h⟩
 ·rintro (h | ⟨x, hx, h⟩)
  ·exact ⟨s, List.mem_cons_self .., h⟩
  ·exact ⟨x, List.mem_cons_of_mem _ hx, h⟩
theorem ahead_is {a : Cut} (ha : Span.right a = true) (h : a.kind = 1) : aheadOf a.v = a := by
 obtain ⟨k, v⟩ := a
 simp only at h
 subst h
 show Cut.mk 1 (bare v) = ⟨1, v⟩
 rw [right_bare ha]
theorem behind_is {a : Cut} (ha : Span.right a = true) (h : a.kind = 2) : behindOf a.v = a := by
 obtain ⟨k, v⟩ := a
 simp only at h
 subst h
 show Cut.mk 2 (bare v) = ⟨2, v⟩
 rw [right_bare ha]
theorem point_next {a b : Cut} (ha : Span.right a = true) (hb : Span.right b = true) (h : isPoint a b = true) : aheadOf a.v = a ∧ behindOf a.v = b ∧ a.v = b.v := by
 obtain ⟨h1, h2, h3⟩ := (isPoint_iff a b).1 h
 have e := ver_same h3 (right_few ha).2 (right_few hb).2
 exact ⟨ahead_is ha h1, by rw [e]; exact behind_is hb h2, e⟩
theorem ver_good {a : Cut} (ha : Span.right a = true) (h : a.kind = 1 ∨ a.kind = 2) : goodV a.v = true := by
 rw [right_ver h, Bool.and_eq_true] at ha; exact ha.1
theorem low_is {a : Cut} (ha : Span.right a = true) (h : a.kind = 0) : a = low := by
 rw [right_ends (.inl h)] at ha
 have := sameV_none ha
 obtain ⟨k, v⟩ := a
 simp only at h this
 subst h; subst this; rfl
theorem high_is {a : Cut} (ha : Span.right a = true) (h : a.kind = 3) : a = high := by
 rw [right_ends (.inr h)] at ha
 have := sameV_none ha
 obtain ⟨k, v⟩ := a
 simp only at h this
 subst h; subst this; rfl
theorem lo_not_high {s : Sp} (h : Span.cnt s = true) : s.lo.kind ≠ 3 := fun k => by
 obtain ⟨h1, h2, h3⟩ := (cnt_iff s).1 h
 rw [high_is h1 k] at h3
 exact lt_not h3 (le_high h2)
theorem hi_not_low {s : Sp} (h : Span.cnt s = true) : s.hi.kind ≠ 0 := fun k => by
 obtain ⟨h1, h2, h3⟩ := (cnt_iff s).1 h
 rw [high_is_low h2 k] at h3
 exact lt_not h3 (low_le h1)
where high_is_low {a : Cut} (ha : Span.right a = true) (h : a.kind = 0) : a = low := low_is ha h
theorem loPart_in {a : Cut} (ha : Span.right a = true) (h3 : a.kind ≠ 3) {c : Cut} (hc : inOne ⟨low, high⟩ c) : (∀ x ∈ loPart a, inC x c) ↔ stand a c ≤ 0 := by
 have hk := right_kind ha
 unfold loPart
 by_cases h1 : a.kind = 1
 ·rw [if_pos h1]
  simp only [List.mem_singleton, forall_eq]
  rw [inC_ver (by omega) (by omega)]
  show _ ∧ (stand (aheadOf a.v) c ≤ 0 ∧ stand c high < 0) ↔ _
  rw [ahead_is ha h1]
  exact ⟨fun g => g.2.1, fun g => ⟨hc, g, hc.2⟩⟩
 ·by_cases h2 : a.kind = 2
  ·rw [if_neg h1, if_pos h2]
   simp only [List.mem_singleton, forall_eq]
   rw [inC_ver (by omega) (by omega)]
   show _ ∧ (stand (behindOf a.v) c ≤ 0 ∧ stand c high < 0) ↔ _
   rw [behind_is ha h2]
   exact ⟨fun g => g.2.1, fun g => ⟨hc, g, hc.2⟩⟩
  ·rw [if_neg h1, if_neg h2, low_is ha (by omega)]
   exact ⟨fun _ => hc.1, fun _ x hx => by cases hx⟩
theorem hiPart_in {a : Cut} (ha : Span.right a = true) (h0 : a.kind ≠ 0) {c : Cut} (hc : inOne ⟨low, high⟩ c) : (∀ x ∈ hiPart a, inC x c) ↔ stand c a < 0 := by
 have hk := right_kind ha
 unfold hiPart
 by_cases h1 : a.kind = 1
 ·rw [if_pos h1]
  simp only [List.mem_singleton, forall_eq]
  rw [inC_ver (by omega) (by omega)]
  show _ ∧ (stand low c ≤ 0 ∧ stand c (aheadOf a.v) < 0) ↔ _
  rw [ahead_is ha h1]
  exact ⟨fun g => g.2.2, fun g => ⟨hc, hc.1, g⟩⟩
 ·by_cases h2 : a.kind = 2
  ·rw [if_neg h1, if_pos h2]
   simp only [List.mem_singleton, forall_eq]
   rw [inC_ver (by omega) (by omega)]
   show _ ∧ (stand low c ≤ 0 ∧ stand c (behindOf a.v) < 0) ↔ _
   rw [behind_is ha h2]
   exact ⟨fun g => g.2.2, fun g => ⟨hc, hc.1, g⟩⟩
  ·rw [if_neg h1, if_neg h2, high_is ha (by omega)]
   exact ⟨fun _ => hc.2, fun _ x hx => by cases hx⟩
theorem ne_in (s : Sp) {c : Cut} (hc : inOne ⟨low, high⟩ c) : inC (neOf s) c ↔ ¬ inOne ⟨aheadOf s.hi.v, behindOf s.hi.v⟩ c := by
 unfold neOf
 rw [inC_ver (by omega) (by omega)]
 unfold inK
 rw [if_pos rfl]
 exact ⟨fun g => g.2, fun g => ⟨hc, g⟩⟩

def Chain (l : List Sp) : Prop := ∀ i, i + 1 < l.length → isPoint (l.getD i default).hi (l.getD (i + 1) default).lo = true
theorem Chain.tail {s : Sp} {l : List Sp} (h : Chain (s :: l)) : Chain l := fun i hi => h (i + 1) (by simp; omega)
theorem last_cons (s t : Sp) (r : List Sp) : lastOf (s :: t :: r) = lastOf (t :: r) := rfl
theorem last_mem {l : List Sp} (h : l ≠ []) : lastOf l ∈ l := by
 have hp : 0 < l.length := List.length_pos_iff.2 h
 unfold lastOf
 rw [List.getD_eq_getElem?_getD, List.getElem?_eq_getElem (by omega)]
 exact List.getElem_mem _
theorem row_sem : ∀ (l : List Sp), Span.Norm l → l ≠ [] → Chain l → ∀ c, inS l c ↔ stand (l.getD 0 default).lo c ≤ 0 ∧ stand c (lastOf l).hi < 0 ∧ ∀ s ∈ l.take (l.length - 1), ¬ inOne ⟨aheadOf s.hi.v, behindOf s.hi.v⟩ c
 | [], _, h, _, _ => absurd rfl h
 | [s], _, _, _, c => by
  rw [inS_one]
  exact ⟨fun h => ⟨h.1, h.2, fun x hx => by simp at hx⟩, fun h => ⟨h.1, h.2.1⟩⟩
 | s :: t :: r, hn, _, hc, c => by
  have IH := row_sem (t :: r) hn.tail (by simp) hc.tail c
  have hs := hn.head
  have ht := hn.tail.head
  have hp : isPoint s.hi t.lo = true := hc 0 (by simp)
  obtain ⟨e1, e2, _⟩ := point_next hs.2.1 ht.1 hp
  have hst : stand s.hi t.lo < 0 := hn.ahead t (by simp)
  have hlast : lastOf (t :: r) ∈ t :: r := last_mem (by simp)
  have htake : (s :: t :: r).take ((s :: t :: r).length - 1) = s :: (t :: r).take ((t :: r).length - 1) := rfl
  rw [inS_cons, IH, last_cons, htake]
  show _ ↔ stand s.lo c ≤ 0 ∧ _
  constructor
  ·rintro (h | ⟨h1, h2, h3⟩)
   ·refine ⟨h.1, lt_lt h.2 (lt_lt (hn.ahead _ hlast) ((cnt_iff _).1 (hn.tail.cnt _ hlast)).2.2), fun x hx k => ?_⟩
    rcases List.mem_cons.1 hx with rfl | hx
    ·rw [e1, e2] at k; exact lt_not h.2 k.1
    ·have hm : x ∈ t :: r := List.mem_of_mem_take hx
     have h5 := lt_lt h.2 (lt_lt (hn.ahead x hm) ((cnt_iff _).1 (hn.tail.cnt x hm)).2.2)
     have hxk : aheadOf x.hi.v = x.hi := by
      obtain ⟨i, hi, hxi⟩ := List.mem_take_iff_getElem.1 hx
      have hlt : i + 1 < (t :: r).length := by omega
      have hpx := hc.tail i hlt
      have hx' : (t :: r).getD i default = x := by
       rw [List.getD_eq_getElem?_getD, List.getElem?_eq_getElem (by omega)]; exact hxi
      rw [hx'] at hpx
      exact ahead_is ((cnt_iff _).1 (hn.tail.cnt x hm)).2.1 ((isPoint_iff _ _).1 hpx).1
     rw [hxk] at k
     exact lt_not h5 k.1
   ·refine ⟨Int.le_of_lt (lt_le (lt_lt hs.2.2 hst) h1), h2, fun x hx => ?_⟩
    rcases List.mem_cons.1 hx with rfl | hx
    ·intro k; rw [e1, e2] at k; exact lt_not k.2 h1
    ·exact h3 x hx
  ·rintro ⟨h1, h2, h3⟩
   by_cases h4 : stand c s.hi < 0
   ·exact .inl ⟨h1, h4⟩
   ·right
    have h5 := not_lt h4
    have h6 := h3 s (List.mem_cons_self ..)
    rw [e1, e2] at h6
    refine ⟨?_, h2, fun x hx => h3 x (List.mem_cons_of_mem _ hx)⟩
    show stand t.lo c ≤ 0
    exact not_lt fun g => h6 ⟨h5, g⟩
theorem first_point {l : List Sp} (hn : Span.Norm l) (hl : l ≠ []) (hc : Chain l) (h : isPoint (l.getD 0 default).lo (l.getD 0 default).hi = true) : ∃ s, l = [s] := by
 match l, hl with
 | [s], _ => exact ⟨s, rfl⟩
 | s :: t :: r, _ =>
  have h1 := (isPoint_iff _ _).1 h
  have h2 := (isPoint_iff _ _).1 (hc 0 (by simp))
  have e1 : s.hi.kind = 2 := h1.2.1
  have e2 : s.hi.kind = 1 := h2.1
  omega
theorem getD0_mem {l : List Sp} (h : l ≠ []) : l.getD 0 default ∈ l := by
 cases l with
 | nil => exact absurd rfl h
 | cons s l => exact List.mem_cons_self ..
theorem piece_in {l : List Sp} (hn : Span.Norm l) (hl : l ≠ []) (hc : Chain l) (c : Cut) : inC (pieceR l) c ↔ inS l c := by
 unfold pieceR
 by_cases hp : isPoint (l.getD 0 default).lo (l.getD 0 default).hi = true
 ·rw [if_pos hp]
  obtain ⟨s, rfl⟩ := first_point hn hl hc hp
  have hs := hn.head
  obtain ⟨e1, e2, _⟩ := point_next hs.1 hs.2.1 hp
  rw [inC_ver (by omega) (by omega), inS_one]
  show _ ∧ inOne ⟨aheadOf s.lo.v, behindOf s.lo.v⟩ c ↔ _
  have e3 : (Sp.mk (aheadOf s.lo.v) (behindOf s.lo.v)) = s := by rw [e1, e2]
  rw [e3]
  exact ⟨fun g => g.2, fun g => ⟨within hs.1 hs.2.1 g, g⟩⟩
 ·rw [if_neg hp, few_and, row_sem l hn hl hc c]
  have h0 := hn.cnt _ (getD0_mem hl)
  have h9 := hn.cnt _ (last_mem hl)
  have r0 := (cnt_iff _).1 h0
  have r9 := (cnt_iff _).1 h9
  constructor
  ·rintro ⟨hcc, hall⟩
   unfold parts at hall
   refine ⟨(loPart_in r0.1 (lo_not_high h0) hcc).1 fun x hx => hall x (List.mem_append_left _ (List.mem_append_left _ hx)), (hiPart_in r9.2.1 (hi_not_low h9) hcc).1 fun x hx => hall x (List.mem_append_left _ (List.mem_append_right _ hx)), fun s hs => ?_⟩
   exact (ne_in s hcc).1 (hall _ (List.mem_append_right _ (List.mem_map_of_mem hs)))
  ·rintro ⟨h1, h2, h3⟩
   have hcc : inOne ⟨low, high⟩ c := ⟨le_le (low_le r0.1) h1, lt_le h2 (le_high r9.2.1)⟩
   refine ⟨hcc, fun x hx => ?_⟩
   unfold parts at hx
   rcases List.mem_append.1 hx with hx | hx
   ·rcases List.mem_append.1 hx with hx | hx
    ·exact (loPart_in r0.1 (lo_not_high h0) hcc).2 h1 x hx
    ·exact (hiPart_in r9.2.1 (hi_not_low h9) hcc).2 h2 x hx
   ·obtain ⟨s, hs, rfl⟩ := List.mem_map.1 hx
    exact (ne_in s hcc).2 (h3 s hs)
theorem good_ver {k : Int} (h1 : 1 ≤ k) (h8 : k ≤ 8) {v : Ver} (hv : goodV v = true) {d : Nat} (hd : d ≤ 64) : goodR (.mk k v []) d = true := by
 rw [Range.goodR_eq, Bool.and_eq_true, Bool.and_eq_true, decide_eq_true_eq]
 refine ⟨⟨hd, ?_⟩, rfl⟩
 unfold fits
 rw [if_pos (by unfold Range.ofVersion; simp; omega), hv]; rfl
theorem opens_ver (o : Int) {k : Int} (h8 : k ≤ 8) (ho : o ≠ 11) : Range.opens o k = 0 := by
 unfold Range.opens Range.bracketed
 rw [if_neg ho, if_neg (by simp; omega)]
theorem goodL_of {o : Int} {l : List Rng} {d : Nat} (h : ∀ x ∈ l, goodR x (d + Range.opens o x.kind) = true) : goodL o l d = true := by
 induction l with
 | nil => rfl
 | cons x l ih =>
  rw [Range.goodL_cons, Bool.and_eq_true]
  exact ⟨h x (List.mem_cons_self ..), ih fun y hy => h y (List.mem_cons_of_mem _ hy)⟩
theorem zero_good {d : Nat} (hd : d ≤ 64) : goodR noRng d = true := by
 show goodR (.mk 0 noVer []) d = true
 rw [Range.goodR_eq, Bool.and_eq_true, Bool.and_eq_true, decide_eq_true_eq]
 exact ⟨⟨hd, by decide⟩, rfl⟩
theorem few_good {k : Int} (hk : k = 9 ∨ k = 10) {l : List Rng} (h : ∀ x ∈ l, goodR x 0 = true ∧ Range.opens k x.kind = 0) : goodR (few k l) 0 = true := by
 revert h
 refine few_cases (fun l => (∀ x ∈ l, goodR x 0 = true ∧ Range.opens k x.kind = 0) → goodR (few k l) 0 = true) (fun _ => zero_good (by omega)) (fun r h => (h r (List.mem_singleton.2 rfl)).1) (fun h2 h => ?_)
 rw [few_more k h2, Range.goodR_eq, Bool.and_eq_true, Bool.and_eq_true, decide_eq_true_eq]
 exact ⟨⟨by omega, Range.fits_many hk h2⟩, goodL_of fun x hx => by rw [(h x hx).2]; exact (h x hx).1⟩
theorem parts_ver {l : List Sp} (hn : Span.Norm l) (hl : l ≠ []) (hc : Chain l) : ∀ x ∈ parts l, ∃ k v, x = .mk k v [] ∧ 1 ≤ k ∧ k ≤ 8 ∧ goodV v = true := by
 intro x hx
 have r0 := (cnt_iff _).1 (hn.cnt _ (getD0_mem hl))
 have r9 := (cnt_iff _).1 (hn.cnt _ (last_mem hl))
 unfold parts at hx
 rcases List.mem_append.1 hx with hx | hx
 ·rcases List.mem_append.1 hx with hx | hx
  ·unfold loPart at hx
   by_cases h1 : (l.getD 0 default).lo.kind = 1
   ·rw [if_pos h1, List.mem_singleton] at hx; exact ⟨1, _, hx, by omega, by omega, ver_good r0.1 (.inl h1)⟩
   ·rw [if_neg h1] at hx
    by_cases h2 : (l.getD 0 default).lo.kind = 2
    ·rw [if_pos h2, List.mem_singleton] at hx; exact ⟨2, _, hx, by omega, by omega, ver_good r0.1 (.inr h2)⟩
    ·rw [if_neg h2] at hx; cases hx
  ·unfold hiPart at hx
   by_cases h1 : (lastOf l).hi.kind = 1
   ·rw [if_pos h1, List.mem_singleton] at hx; exact ⟨4, _, hx, by omega, by omega, ver_good r9.2.1 (.inl h1)⟩
   ·rw [if_neg h1] at hx
    by_cases h2 : (lastOf l).hi.kind = 2
    ·rw [if_pos h2, List.mem_singleton] at hx; exact ⟨3, _, hx, by omega, by omega, ver_good r9.2.1 (.inr h2)⟩
    ·rw [if_neg h2] at hx; cases hx
 ·obtain ⟨s, hs, rfl⟩ := List.mem_map.1 hx
  obtain ⟨i, hi, hxi⟩ := List.mem_take_iff_getElem.1 hs
  have hlt : i + 1 < l.length := by omega
  have hpx := hc i hlt
  have hx' : l.getD i default = s := by
   rw [List.getD_eq_getElem?_getD, List.getElem?_eq_getElem (by omega)]; exact hxi
  rw [hx'] at hpx
  exact ⟨6, _, rfl, by omega, by omega, ver_good ((cnt_iff _).1 (hn.cnt s (List.mem_of_mem_take hs))).2.1 (.inl ((isPoint_iff _ _).1 hpx).1)⟩
theorem few_kind {k : Int} {l : List Rng} {P : Int → Prop} (h0 : P 0) (hk : P k) (h : ∀ x ∈ l, P x.kind) : P (few k l).kind := by
 revert h
 refine few_cases (fun l => (∀ x ∈ l, P x.kind) → P (few k l).kind) (fun _ => h0) (fun r h => h r (List.mem_singleton.2 rfl)) (fun h2 h => ?_)
 rw [few_more k h2]; exact hk
theorem piece_good {l : List Sp} (hn : Span.Norm l) (hl : l ≠ []) (hc : Chain l) : goodR (pieceR l) 0 = true ∧ Range.opens 10 (pieceR l).kind = 0 := by
 have hv := parts_ver hn hl hc
 unfold pieceR
 by_cases hp : isPoint (l.getD 0 default).lo (l.getD 0 default).hi = true
 ·rw [if_pos hp]
  exact ⟨good_ver (by omega) (by omega) (ver_good ((cnt_iff _).1 (hn.cnt _ (getD0_mem hl))).1 (.inl ((isPoint_iff _ _).1 hp).1)) (by omega), opens_ver 10 (by simp [Range.Rng.kind]) (by omega)⟩
 ·rw [if_neg hp]
  refine ⟨few_good (.inl rfl) fun x hx => ?_, ?_⟩
  ·obtain ⟨k, v, rfl, h1, h2, h3⟩ := hv x hx
   exact ⟨good_ver h1 h2 h3 (by omega), opens_ver 9 h2 (by omega)⟩
  ·refine few_kind (P := fun k => Range.opens 10 k = 0) rfl rfl fun x hx => ?_
   obtain ⟨k, v, rfl, h1, h2, h3⟩ := hv x hx
   exact opens_ver 10 h2 (by omega)
theorem norm_append {a b : List Sp} (h : Span.Norm (a ++ b)) : Span.Norm a ∧ Span.Norm b := by
 have hp := List.pairwise_append.1 h.gap
 exact ⟨⟨fun s hs => h.cnt s (List.mem_append_left _ hs), hp.1⟩, ⟨fun s hs => h.cnt s (List.mem_append_right _ hs), hp.2.1⟩⟩
theorem Chain.snoc {l : List Sp} {s : Sp} (h : Chain l) (hl : l ≠ []) (hp : isPoint (lastOf l).hi s.lo = true) : Chain (l ++ [s]) := by
 intro i hi
 have hpos : 0 < l.length := List.length_pos_iff.2 hl
 rw [List.length_append] at hi
 simp only [List.length_singleton] at hi
 by_cases h1 : i + 1 < l.length
 ·have := h i h1
  simp only [List.getD_eq_getElem?_getD] at this ⊢
  rw [List.getElem?_append_left (by omega), List.getElem?_append_left (by omega)]
  exact this
 ·obtain rfl : i = l.length - 1 := by omega
  have e1 : (l ++ [s]).getD (l.length - 1) default = lastOf l := by
   unfold lastOf
   simp only [List.getD_eq_getElem?_getD]
   rw [List.getElem?_append_left (by omega)]
  have e2 : (l ++ [s]).getD (l.length - 1 + 1) default = s := by
   simp only [List.getD_eq_getElem?_getD]
   rw [show l.length - 1 + 1 = l.length by omega, List.getElem?_append_right (Nat.le_refl _)]
   simp
  rw [e1, e2]; exact hp
theorem Chain.one (s : Sp) : Chain [s] := fun i hi => by simp at hi
theorem grp_all : ∀ (rest row : List Sp), row ≠ [] → Span.Norm (row ++ rest) → Chain row → (∀ g ∈ grp row rest, g ≠ [] ∧ Span.Norm g ∧ Chain g) ∧ (grp row rest).flatten = row ++ rest
 | [], row, hr, hn, hc => by
  rw [grp]
  refine ⟨fun g hg => ?_, by simp⟩
  rw [List.mem_singleton] at hg; subst hg
  exact ⟨hr, by simpa using hn, hc⟩
 | s :: rest, row, hr, hn, hc => by
  rw [grp]
  by_cases hp : isPoint (lastOf row).hi s.lo = true
  ·rw [if_pos hp]
   have h1 := grp_all rest (row ++ [s]) (by simp) (by simpa using hn) (hc.snoc hr hp)
   exact ⟨h1.1, by rw [h1.2]; simp⟩
  ·rw [if_neg hp]
   have hs := norm_append hn
   have h1 := grp_all rest [s] (by simp) (by simpa using hs.2) (Chain.one s)
   refine ⟨fun g hg => ?_, by rw [List.flatten_cons, h1.2]; simp⟩
   rcases List.mem_cons.1 hg with rfl | hg
   ·exact ⟨hr, hs.1, hc⟩
   ·exact h1.1 g hg
theorem grp_some : ∀ (rest row : List Sp), grp row rest ≠ []
 | [], row => by rw [grp]; simp
 | s :: rest, row => by
  rw [grp]; split
  ·exact grp_some rest _
  ·simp
theorem inS_flatten (l : List (List Sp)) (c : Cut) : inS l.flatten c ↔ ∃ g ∈ l, inS g c := by
 constructor
 ·rintro ⟨s, hs, h⟩
  obtain ⟨g, hg, hsg⟩ := List.mem_flatten.1 hs
  exact ⟨g, hg, s, hsg, h⟩
 ·rintro ⟨g, hg, s, hs, h⟩
  exact ⟨s, List.mem_flatten.2 ⟨g, hg, hs⟩, h⟩
theorem plain_set {o : List Sp} (h : Span.Norm o) : SetOf (plainR o) o := by
 refine ⟨h, fun c => ?_⟩
 unfold plainR
 cases o with
 | nil =>
  show inS [] c ↔ inC (.mk 11 noVer [noRng]) c
  rw [inC_not, inC_zero]
  exact ⟨fun k => absurd k (inS_nil c), fun k => absurd k.1 k.2⟩
 | cons s l =>
  rw [if_neg (by simp)]
  obtain ⟨h1, h2⟩ := grp_all l [s] (by simp) h (Chain.one s)
  show _ ↔ inC (few 10 ((grp [s] l).map pieceR)) c
  rw [few_or (by intro e; exact grp_some l [s] (List.map_eq_nil_iff.1 e))]
  have e : s :: l = (grp [s] l).flatten := by rw [h2]; rfl
  rw [e, inS_flatten]
  constructor
  ·rintro ⟨g, hg, k⟩
   obtain ⟨a, b, d⟩ := h1 g hg
   exact ⟨pieceR g, List.mem_map_of_mem hg, (piece_in b a d c).2 k⟩
  ·rintro ⟨x, hx, k⟩
   obtain ⟨g, hg, rfl⟩ := List.mem_map.1 hx
   obtain ⟨a, b, d⟩ := h1 g hg
   exact ⟨g, hg, (piece_in b a d c).1 k⟩
theorem plain_good {o : List Sp} (h : Span.Norm o) : goodR (plainR o) 0 = true := by
 unfold plainR
 cases o with
 | nil => decide
 | cons s l =>
  rw [if_neg (by simp)]
  obtain ⟨h1, _⟩ := grp_all l [s] (by simp) h (Chain.one s)
  refine few_good (.inr rfl) fun x hx => ?_
  obtain ⟨g, hg, rfl⟩ := List.mem_map.1 hx
  obtain ⟨a, b, d⟩ := h1 g hg
  exact piece_good b a d

theorem wtL_append : ∀ a b : List Rng, wtL (a ++ b) = wtL a + wtL b
 | [], b => by simp [wtL]
 | x :: a, b => by rw [List.cons_append, Range.wtL_cons, Range.wtL_cons, wtL_append a b]; omega
theorem few_wt (k : Int) (l : List Rng) : wt (few k l) ≤ 1 + wtL l := by
 refine few_cases (fun l => wt (few k l) ≤ 1 + wtL l) (by rw [few_none]; decide) (fun r => ?_) (fun h => ?_)
 ·rw [few_one, Range.wtL_cons]; omega
 ·rw [few_more k h, Range.wt_eq]; exact Nat.le_refl _
theorem ver_wtL {l : List Rng} (h : ∀ x ∈ l, ∃ k v, x = .mk k v []) : wtL l = l.length := by
 induction l with
 | nil => rfl
 | cons x l ih =>
  obtain ⟨k, v, rfl⟩ := h x (List.mem_cons_self ..)
  rw [Range.wtL_cons, ih fun y hy => h y (List.mem_cons_of_mem _ hy), Range.wt_eq]
  show 1 + 0 + l.length = l.length + 1
  omega
theorem parts_len (l : List Sp) (hl : l ≠ []) : (parts l).length ≤ l.length + 1 := by
 have hpos : 0 < l.length := List.length_pos_iff.2 hl
 have h1 : ∀ c, (loPart c).length ≤ 1 := fun c => by
  unfold loPart
  by_cases a : c.kind = 1
  ·rw [if_pos a]; exact Nat.le_refl _
  ·by_cases b : c.kind = 2
   ·rw [if_neg a, if_pos b]; exact Nat.le_refl _
   ·rw [if_neg a, if_neg b]; exact Nat.zero_le _
 have h2 : ∀ c, (hiPart c).length ≤ 1 := fun c => by
  unfold hiPart
  by_cases a : c.kind = 1
  ·rw [if_pos a]; exact Nat.le_refl _
  ·by_cases b : c.kind = 2
   ·rw [if_neg a, if_pos b]; exact Nat.le_refl _
   ·rw [if_neg a, if_neg b]; exact Nat.zero_le _
 unfold parts
 rw [List.length_append, List.length_append, List.length_map, List.length_take]
 have a := h1 (l.getD 0 default).lo
 have b := h2 (lastOf l).hi
 omega
theorem piece_wt {l : List Sp} (hn : Span.Norm l) (hl : l ≠ []) (hc : Chain l) : wt (pieceR l) ≤ 3 * l.length := by
 have hpos : 0 < l.length := List.length_pos_iff.2 hl
 unfold pieceR
 by_cases hp : isPoint (l.getD 0 default).lo (l.getD 0 default).hi = true
 ·rw [if_pos hp, Range.wt_eq]
  show 1 + 0 ≤ _
  omega
 ·rw [if_neg hp]
  have h1 := few_wt 9 (parts l)
  have h2 := ver_wtL (l := parts l) fun x hx => by obtain ⟨k, v, e, _⟩ := parts_ver hn hl hc x hx; exact ⟨k, v, e⟩
  have h3 := parts_len l hl
  omega
theorem plain_wt {o : List Sp} (h : Span.Norm o) : wt (plainR o) ≤ 3 * o.length + 2 := by
 unfold plainR
 cases o with
 | nil => decide
 | cons s l =>
  rw [if_neg (by simp)]
  obtain ⟨h1, h2⟩ := grp_all l [s] (by simp) h (Chain.one s)
  have e : s :: l = (grp [s] l).flatten := by rw [h2]; rfl
  have h3 := few_wt 10 (piecesR (s :: l))
  have h4 : ∀ L : List (List Sp), (∀ g ∈ L, g ≠ [] ∧ Span.Norm g ∧ Chain g) → wtL (L.map pieceR) ≤ 3 * L.flatten.length := by
   intro L
   induction L with
   | nil => intro _; exact Nat.le_refl _
   | cons g L ih =>
    intro hL
    obtain ⟨a, b, d⟩ := hL g (List.mem_cons_self ..)
    have h5 := ih fun x hx => hL x (List.mem_cons_of_mem _ hx)
    have h6 := piece_wt b a d
    rw [List.map_cons, Range.wtL_cons, List.flatten_cons, List.length_append]
    omega
  have h7 := h4 _ h1
  rw [← e] at h7
  have h8 : wtL (piecesR (s :: l)) ≤ 3 * (s :: l).length := h7
  omega
end Go.Proofs.YtgfbflnhjpbceaaGreatDoor.Nrm
namespace Go.Proofs.YtgfbflnhjpbceaaGreatDoor.Nrm
open Go.RowKit Num Ident Semver Prec Span
open Range (Rng noRng goodR goodL fits wt wtL textR textL markR aheadR openR shutR ops)
theorem good_vtext {v : Ver} (h : goodV v = true) : (vtext v).length ≤ 24144 := by
 unfold goodV at h
 rw [Bool.and_eq_true, Bool.and_eq_true] at h
 obtain ⟨h1, h2, h3⟩ := h
 unfold heldB maxField at h1
 have h1 := of_decide_eq_true h1
 have a := dec_le v.a (by omega)
 have b := dec_le v.b (by omega)
 have c := dec_le v.c (by omega)
 have s1 : shortB v.pre = true := by
  rw [shortB_iff]
  have := goodFrom_bound v.pre 0 h2
  refine ⟨?_, fun x hx => Nat.le_trans (this.2 x hx) (by omega)⟩
  by_cases hn : v.pre = []
  ·rw [hn]; exact Nat.zero_le _
  ·have := this.1 hn; omega
 have s2 : shortB v.build = true := by
  rw [shortB_iff]
  have := goodFrom_bound v.build 0 h3
  refine ⟨?_, fun x hx => Nat.le_trans (this.2 x hx) (by omega)⟩
  by_cases hn : v.build = []
  ·rw [hn]; exact Nat.zero_le _
  ·have := this.1 hn; omega
 have p := rowText_le (m := 45) s1
 have q := rowText_le (m := 43) s2
 unfold vtext
 simp only [List.length_append, List.length_singleton]
 omega
theorem fits_good {k : Int} {v : Ver} {n : Nat} (h : fits k v n = true) : goodV v = true := by
 cases ho : Range.ofVersion k with
 | true => rw [Range.fits_ver ho, Bool.and_eq_true] at h; exact h.1
 | false =>
  cases hs : sameV v noVer with
  | false => rw [Range.fits_un ho hs] at h; cases h
  | true => rw [Span.sameV_none hs]; decide
theorem ops_two (i : Nat) : (ops.getD i []).length ≤ 2 := by
 have h : ∀ x ∈ ops, x.length ≤ 2 := by decide
 rw [List.getD_eq_getElem?_getD]
 by_cases hi : i < ops.length
 ·rw [List.getElem?_eq_getElem hi]; exact h _ (List.getElem_mem _)
 ·rw [List.getElem?_eq_none (by omega)]; exact Nat.zero_le _
theorem mark_len {k : Int} {v : Ver} (h : goodV v = true) : (markR k v).length ≤ 24146 := by
 have := good_vtext h
 have := ops_two (k - 1).toNat
 unfold markR
 split
 ·simp
 ·split
  ·simp
  ·split
   ·simp
   ·split
    ·rw [List.length_append]; omega
    ·omega
theorem ahead_len (o k : Int) (i : Nat) : (aheadR o k i).length ≤ 4 := by
 unfold aheadR
 split
 ·simp
 ·split
  ·simp
  ·split <;> simp
theorem open_len (o k : Int) : (openR o k).length ≤ 1 := by unfold openR; split <;> simp
theorem shut_len (o k : Int) : (shutR o k).length ≤ 1 := by unfold shutR; split <;> simp
mutual
theorem textR_len : ∀ (r : Rng) (d : Nat), goodR r d = true → (textR r).length + 10 ≤ 25000 * wt r
 | .mk k v l, d, h => by
  rw [Range.goodR_eq, Bool.and_eq_true, Bool.and_eq_true] at h
  have h1 := mark_len (k := k) (fits_good h.1.2)
  have h2 := textL_len l k (Range.most k l.length) 0 d h.2
  rw [Range.textR_eq, List.length_append]
  show _ ≤ 25000 * (1 + wtL l)
  omega
theorem textL_len : ∀ (l : List Rng) (o : Int) (m i d : Nat), goodL o l d = true → (textL o m l i).length ≤ 25000 * wtL l
 | [], o, m, i, d, _ => Nat.zero_le _
 | r :: rs, o, m, i, d, h => by
  rw [Range.goodL_cons, Bool.and_eq_true] at h
  have h1 := textR_len r _ h.1
  have h2 := textL_len rs o m (i + 1) d h.2
  have := ahead_len o r.kind i
  have := open_len o r.kind
  have := shut_len o r.kind
  show (if i < m then aheadR o r.kind i ++ (openR o r.kind ++ textR r ++ shutR o r.kind) ++ textL o m rs (i + 1) else []).length ≤ 25000 * (wt r + wtL rs)
  split
  ·simp only [List.length_append]
   omega
  ·exact Nat.zero_le _
end
end Go.Proofs.YtgfbflnhjpbceaaGreatDoor.Nrm
namespace Go.Proofs.YtgfbflnhjpbceaaGreatDoor.Nrm
open Go.RowKit Num Ident Semver Prec Span
theorem ncut_any (k : Int) (v : Ver) (A : Option Addr) (c : Nat) (B : Option Addr) (d : Nat) (w : World) :
  Calls Tryz.prog 96 #[.int .i64 k, .agg #[.int .u64 (v.a : Int), .int .u64 (v.b : Int), .int .u64 (v.c : Int), .slice A v.pre.length c, .slice B v.build.length d]] w fun e w' => e = .returned (.agg #[.int .i64 k, .int .u64 (v.a : Int), .int .u64 (v.b : Int), .int .u64 (v.c : Int), .slice A v.pre.length c, .slice none 0 0]) ∧ Below w.heap.size w w' := by
 go_enter Tryz.func96, Tryz.ntmps96
 go_wp2
 refine bodyPost_ret (v := .agg #[.int .i64 k, .int .u64 (v.a : Int), .int .u64 (v.b : Int), .int .u64 (v.c : Int), .slice A v.pre.length c, .slice none 0 0]) (by simp [results, Tryz.results96, go_sem]) rfl ?_
 exact ⟨rfl, ((Below.refl _ _).alloc (Nat.le_refl _) _).alloc (by simp) _⟩
theorem nend_no (v : Ver) (A : Option Addr) (c : Nat) (B : Option Addr) (d : Nat) (w : World) :
  Calls Tryz.prog 98 #[.agg #[.int .u64 (v.a : Int), .int .u64 (v.b : Int), .int .u64 (v.c : Int), .slice A v.pre.length c, .slice B v.build.length d], .bool false] w fun e w' => e = .returned (.agg #[.int .i64 3, .int .u64 0, .int .u64 0, .int .u64 0, .slice none 0 0, .slice none 0 0]) ∧ Below w.heap.size w w' := by
 go_enter Tryz.func98, Tryz.ntmps98
 go_wp2
 refine bodyPost_ret (v := .agg #[.int .i64 3, .int .u64 0, .int .u64 0, .int .u64 0, .slice none 0 0, .slice none 0 0]) (by simp [results, Tryz.results98, go_sem]) rfl ?_
 exact ⟨rfl, ((Below.refl _ _).alloc (Nat.le_refl _) _).alloc (by simp) _⟩
theorem nend_yes (v : Ver) (A : Option Addr) (c : Nat) (B : Option Addr) (d : Nat) (w : World) :
  Calls Tryz.prog 98 #[.agg #[.int .u64 (v.a : Int), .int .u64 (v.b : Int), .int .u64 (v.c : Int), .slice A v.pre.length c, .slice B v.build.length d], .bool true] w fun e w' => e = .returned (.agg #[.int .i64 1, .int .u64 (v.a : Int), .int .u64 (v.b : Int), .int .u64 (v.c : Int), .slice A v.pre.length c, .slice none 0 0]) ∧ Below w.heap.size w w' := by
 have HB0 : Hid (Below w.heap.size w ((w.alloc (.cells #[.int .u64 (v.a : Int), .int .u64 (v.b : Int), .int .u64 (v.c : Int), .slice A v.pre.length c, .slice B v.build.length d] 25)).alloc (.cells #[.int .i64 0, .int .u64 0, .int .u64 0, .int .u64 0, .slice none 0 0, .slice none 0 0] 41))) := ((Below.refl _ _).alloc (Nat.le_refl _) _).alloc (by simp) _
 have J0 : Hid (At6B ((w.alloc (.cells #[.int .u64 (v.a : Int), .int .u64 (v.b : Int), .int .u64 (v.c : Int), .slice A v.pre.length c, .slice B v.build.length d] 25)).alloc (.cells #[.int .i64 0, .int .u64 0, .int .u64 0, .int .u64 0, .slice none 0 0, .slice none 0 0] 41)) (w.heap.size + 1) (.int .i64 0) (.int .u64 0) (.int .u64 0) (.int .u64 0) (.slice none 0 0) (.slice none 0 0)) := by
  have := At6B.new (w.alloc (.cells #[.int .u64 (v.a : Int), .int .u64 (v.b : Int), .int .u64 (v.c : Int), .slice A v.pre.length c, .slice B v.build.length d] 25)) 41 (.int .i64 0) (.int .u64 0) (.int .u64 0) (.int .u64 0) (.slice none 0 0) (.slice none 0 0)
  rw [size_alloc] at this; exact this
 go_enter Tryz.func98, Tryz.ntmps98
 go_wp2_with fail
 generalize ((w.alloc (.cells #[.int .u64 (v.a : Int), .int .u64 (v.b : Int), .int .u64 (v.c : Int), .slice A v.pre.length c, .slice B v.build.length d] 25)).alloc (.cells #[.int .i64 0, .int .u64 0, .int .u64 0, .int .u64 0, .slice none 0 0, .slice none 0 0] 41)) = W at HB0 J0 ⊢
 refine (ncut_any 1 v A c B d W).mono ?_
 rintro e w1 ⟨rfl, hb⟩
 have B1 := Lib.hid (HB0.out.trans (hb.mono HB0.out.size))
 have J1 := Lib.hid (J0.out.kept hb J0.out.1)
 clear hb J0 HB0
 have K3 := Lib.hid (J1.out.set6 (.int .i64 1) (.int .u64 (v.a : Int)) (.int .u64 (v.b : Int)) (.int .u64 (v.c : Int)) (.slice A v.pre.length c) (.slice none 0 0))
 have B3 := Lib.hid (below_set6 B1.out (b := w.heap.size + 1) (by omega) (.int .i64 1) (.int .u64 (v.a : Int)) (.int .u64 (v.b : Int)) (.int .u64 (v.c : Int)) (.slice A v.pre.length c) (.slice none 0 0))
 obtain ⟨z1, z2, y0, y1, y2, y3, y4, y5⟩ := J1.out
 go_wp2
 change bodyPost _ _ _ _ _ (Span.set6 w1 (w.heap.size + 1) (.int .i64 1) (.int .u64 (v.a : Int)) (.int .u64 (v.b : Int)) (.int .u64 (v.c : Int)) (.slice A v.pre.length c) (.slice none 0 0))
 generalize Span.set6 w1 (w.heap.size + 1) (.int .i64 1) (.int .u64 (v.a : Int)) (.int .u64 (v.b : Int)) (.int .u64 (v.c : Int)) (.slice A v.pre.length c) (.slice none 0 0) = W5 at K3 B3 ⊢
 clear z1 z2 y0 y1 y2 y3 y4 y5
 obtain ⟨z1, z2, y0, y1, y2, y3, y4, y5⟩ := K3.out
 exact bodyPost_ret (v := .agg #[.int .i64 1, .int .u64 (v.a : Int), .int .u64 (v.b : Int), .int .u64 (v.c : Int), .slice A v.pre.length c, .slice none 0 0]) (by simp [results, Tryz.results98, go_sem, y0, y1, y2, y3, y4, y5]) rfl ⟨rfl, B3.out⟩
theorem between_any (x y : RCut) (w : World) (hx : Span.Lies w x) (hy : Span.Lies w y) :
  Calls Tryz.prog 97 #[.agg #[.int .i64 x.kind, .int .u64 (x.v.a : Int), .int .u64 (x.v.b : Int), .int .u64 (x.v.c : Int), .slice x.A x.v.pre.length x.c, .slice x.B x.v.build.length x.d], .agg #[.int .i64 y.kind, .int .u64 (y.v.a : Int), .int .u64 (y.v.b : Int), .int .u64 (y.v.c : Int), .slice y.A y.v.pre.length y.c, .slice y.B y.v.build.length y.d]] w (SetIn w 1 (NormalOf [⟨x.cut, y.cut⟩])) := by
 have HB0 : Hid (Below w.heap.size w ((w.alloc (.cells #[.int .i64 x.kind, .int .u64 (x.v.a : Int), .int .u64 (x.v.b : Int), .int .u64 (x.v.c : Int), .slice x.A x.v.pre.length x.c, .slice x.B x.v.build.length x.d] 41)).alloc (.cells #[.int .i64 y.kind, .int .u64 (y.v.a : Int), .int .u64 (y.v.b : Int), .int .u64 (y.v.c : Int), .slice y.A y.v.pre.length y.c, .slice y.B y.v.build.length y.d] 41))) := ((Below.refl _ _).alloc (Nat.le_refl _) _).alloc (by simp) _
 have HS0 : Hid (LiesS ((w.alloc (.cells #[.int .i64 x.kind, .int .u64 (x.v.a : Int), .int .u64 (x.v.b : Int), .int .u64 (x.v.c : Int), .slice x.A x.v.pre.length x.c, .slice x.B x.v.build.length x.d] 41)).alloc (.cells #[.int .i64 y.kind, .int .u64 (y.v.a : Int), .int .u64 (y.v.b : Int), .int .u64 (y.v.c : Int), .slice y.A y.v.pre.length y.c, .slice y.B y.v.build.length y.d] 41)) ⟨x, y⟩) := ⟨hx.kept HB0.out, hy.kept HB0.out⟩
 clear hx hy
 go_enter Tryz.func97, Tryz.ntmps97
 go_upto_region 1 with (fail)
 have X0 := At6B.new w 41 (.int .i64 x.kind) (.int .u64 (x.v.a : Int)) (.int .u64 (x.v.b : Int)) (.int .u64 (x.v.c : Int)) (.slice x.A x.v.pre.length x.c) (.slice x.B x.v.build.length x.d)
 have X1 : Hid (At6B ((w.alloc (.cells #[.int .i64 x.kind, .int .u64 (x.v.a : Int), .int .u64 (x.v.b : Int), .int .u64 (x.v.c : Int), .slice x.A x.v.pre.length x.c, .slice x.B x.v.build.length x.d] 41)).alloc (.cells #[.int .i64 y.kind, .int .u64 (y.v.a : Int), .int .u64 (y.v.b : Int), .int .u64 (y.v.c : Int), .slice y.A y.v.pre.length y.c, .slice y.B y.v.build.length y.d] 41)) w.heap.size (.int .i64 x.kind) (.int .u64 (x.v.a : Int)) (.int .u64 (x.v.b : Int)) (.int .u64 (x.v.c : Int)) (.slice x.A x.v.pre.length x.c) (.slice x.B x.v.build.length x.d)) := X0.kept ((Below.refl _ _).alloc (Nat.le_refl _) _) X0.1
 have Y1 : Hid (At6B ((w.alloc (.cells #[.int .i64 x.kind, .int .u64 (x.v.a : Int), .int .u64 (x.v.b : Int), .int .u64 (x.v.c : Int), .slice x.A x.v.pre.length x.c, .slice x.B x.v.build.length x.d] 41)).alloc (.cells #[.int .i64 y.kind, .int .u64 (y.v.a : Int), .int .u64 (y.v.b : Int), .int .u64 (y.v.c : Int), .slice y.A y.v.pre.length y.c, .slice y.B y.v.build.length y.d] 41)) (w.heap.size + 1) (.int .i64 y.kind) (.int .u64 (y.v.a : Int)) (.int .u64 (y.v.b : Int)) (.int .u64 (y.v.c : Int)) (.slice y.A y.v.pre.length y.c) (.slice y.B y.v.build.length y.d)) := by
  have := At6B.new (w.alloc (.cells #[.int .i64 x.kind, .int .u64 (x.v.a : Int), .int .u64 (x.v.b : Int), .int .u64 (x.v.c : Int), .slice x.A x.v.pre.length x.c, .slice x.B x.v.build.length x.d] 41)) 41 (.int .i64 y.kind) (.int .u64 (y.v.a : Int)) (.int .u64 (y.v.b : Int)) (.int .u64 (y.v.c : Int)) (.slice y.A y.v.pre.length y.c) (.slice y.B y.v.build.length y.d)
  rw [size_alloc] at this; exact this
 clear X0
 generalize ((w.alloc (.cells #[.int .i64 x.kind, .int .u64 (x.v.a : Int), .int .u64 (x.v.b : Int), .int .u64 (x.v.c : Int), .slice x.A x.v.pre.length x.c, .slice x.B x.v.build.length x.d] 41)).alloc (.cells #[.int .i64 y.kind, .int .u64 (y.v.a : Int), .int .u64 (y.v.b : Int), .int .u64 (y.v.c : Int), .slice y.A y.v.pre.length y.c, .slice y.B y.v.build.length y.d] 41)) = W at HB0 HS0 X1 Y1 ⊢
 obtain ⟨a1, a2, x0, x1, x2, x3, x4, x5⟩ := X1.out
 obtain ⟨b1, b2, y0, y1, y2, y3, y4, y5⟩ := Y1.out
 have R1 := Lib.hid (SpRow.one W ⟨x, y⟩ HS0.out)
 have B1 : Hid (Below w.heap.size w (W.alloc (.cells (RSp.mk x y).vals.toArray 43))) := HB0.out.alloc HB0.out.size _
 go_wp2_with fail
 refine (normal_in (some ⟨W.heap.size, 0, none⟩) 1 1 [⟨x, y⟩] _ R1.out (by omega)).mono ?_
 intro e w3 h3
 have HS := Lib.hid (h3.mono B1.out)
 obtain ⟨A3, n3, c3, out, rfl, q1, q2, q3, q4, q5, q6, q7⟩ := HS.out
 clear h3
 go_wp2
 go_ret
 exact HS.out
end Go.Proofs.YtgfbflnhjpbceaaGreatDoor.Nrm
