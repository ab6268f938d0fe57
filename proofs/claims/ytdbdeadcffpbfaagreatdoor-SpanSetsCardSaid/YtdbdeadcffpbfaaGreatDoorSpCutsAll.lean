/-
  Sets built cut by cut: rising cuts, what lies between neighbours, runs of what is in. Plain facts.
  Whether a span has all between two cuts, by the document's own answer (ferruleref05.Covers). Conditions: the slice reads as the list of spans; the cuts' versions lie where they say.
  Appends onto an owned row of cuts. Conditions: as each states.
  A cut put among cuts, in new memory (a region of ferruleref05.Cuts). Conditions: the slice reads as the list of cuts.
  All right cuts of spans, rising, each once (ferruleref05.Cuts). Conditions: the slices read as lists of spans; there aren't too many.
-/
import Derived.Test.YtdbdeadcffpbfaaGreatDoorSpLawAll
import Derived.Test.YtdbdeadcffpbfaaGreatDoorSpRefAll
import Derived.StillTailTactics
import Derived.Deep.CutBlock
import Derived.Deep.DeepCutAuto
import Derived.Deep.RegionHeld3
import Derived.Test.YtdbdeadcffpbfaaGreatDoorSpOwn
namespace Go.Proofs.YtdbdeadcffpbfaaGreatDoor.Span
open Go.RowKit Num Ident Semver Prec

/-- The i-th cut. -/
def cutAt (L : List Cut) (i : Nat) : Cut := L.getD i default
theorem cutAt_lt {L : List Cut} {i : Nat} (h : i < L.length) : cutAt L i = L[i] := by simp [cutAt, List.getD, List.getElem?_eq_getElem h]
theorem cutAt_mem {L : List Cut} {i : Nat} (h : i < L.length) : cutAt L i ∈ L := by rw [cutAt_lt h]; exact List.getElem_mem h
/-- Rising right cuts, the lowest and the highest among them. -/
structure Rise (L : List Cut) : Prop where
  right : ∀ x ∈ L, right x = true
  rise : L.Pairwise fun x y => stand x y < 0
  low : low ∈ L
  high : high ∈ L
theorem Rise.start : Rise [Span.low, Span.high] := by
  refine ⟨fun x hx => ?_, List.pairwise_cons.2 ⟨fun y hy => ?_, List.pairwise_singleton _ _⟩, by simp, by simp⟩
  · simp only [List.mem_cons, List.mem_nil_iff, or_false] at hx
    rcases hx with rfl | rfl
    · exact low_right
    · exact high_right
  · rw [List.mem_singleton] at hy; subst hy; exact low_high
theorem Rise.lt {L : List Cut} (h : Rise L) {i j : Nat} (hij : i < j) (hj : j < L.length) : stand (cutAt L i) (cutAt L j) < 0 := by
  rw [cutAt_lt (Nat.lt_trans hij hj), cutAt_lt hj]
  exact List.pairwise_iff_getElem.1 h.rise i j (Nat.lt_trans hij hj) hj hij
theorem Rise.le {L : List Cut} (h : Rise L) {i j : Nat} (hij : i ≤ j) (hj : j < L.length) : stand (cutAt L i) (cutAt L j) ≤ 0 := by
  rcases Nat.lt_or_eq_of_le hij with g | g
  · have := h.lt g hj; omega
  · subst g; rw [stand_self]; exact Int.le_refl 0
/-- A right cut is put where it stands. -/
theorem Rise.ins {L : List Cut} (h : Rise L) {c : Cut} (hc : Span.right c = true) {k : Nat} (h1 : ∀ j, j < k → stand (cutAt L j) c < 0) (hk : k ≤ L.length) (h2 : k = L.length ∨ 0 < stand (cutAt L k) c) : Rise (L.take k ++ c :: L.drop k) := by
  have hp : (L.take k ++ L.drop k).Pairwise fun x y => stand x y < 0 := by rw [List.take_append_drop]; exact h.rise
  obtain ⟨p1, p2, p3⟩ := List.pairwise_append.1 hp
  have hd : ∀ y ∈ L.drop k, stand c y < 0 := by
    intro y hy
    obtain ⟨i, hi, rfl⟩ := List.getElem_of_mem hy
    rw [List.length_drop] at hi
    rw [List.getElem_drop]
    rcases h2 with h2 | h2
    · omega
    · have e : L[k + i] = cutAt L (k + i) := (cutAt_lt (by omega)).symm
      rw [e]
      have f := stand_flip (cutAt L k) c
      exact lt_le (by omega) (h.le (Nat.le_add_right k i) (by omega))
  have ht : ∀ x ∈ L.take k, stand x c < 0 := by
    intro x hx
    obtain ⟨i, hi, rfl⟩ := List.getElem_of_mem hx
    rw [List.length_take] at hi
    rw [List.getElem_take]
    have e : L[i] = cutAt L i := (cutAt_lt (by omega)).symm
    rw [e]; exact h1 i (by omega)
  refine ⟨fun x hx => ?_, List.pairwise_append.2 ⟨p1, List.pairwise_cons.2 ⟨hd, p2⟩, fun x hx y hy => ?_⟩, ?_, ?_⟩
  · rcases List.mem_append.1 hx with hx | hx
    · exact h.right x (List.mem_of_mem_take hx)
    · rcases List.mem_cons.1 hx with rfl | hx
      · exact hc
      · exact h.right x (List.mem_of_mem_drop hx)
  · rcases List.mem_cons.1 hy with rfl | hy
    · exact ht x hx
    · exact p3 x hx y hy
  · have := h.low
    rw [← List.take_append_drop k L, List.mem_append] at this
    rw [List.mem_append]; exact this.imp id (List.mem_cons_of_mem _)
  · have := h.high
    rw [← List.take_append_drop k L, List.mem_append] at this
    rw [List.mem_append]; exact this.imp id (List.mem_cons_of_mem _)
/-- A cut that stands like this one is there. -/
def Hits (L : List Cut) (c : Cut) : Prop := ∃ i, i < L.length ∧ stand (cutAt L i) c = 0
theorem hits_of {L : List Cut} {c x : Cut} (hx : x ∈ L) (h : stand x c = 0) : Hits L c := by
  obtain ⟨i, hi, rfl⟩ := List.getElem_of_mem hx
  exact ⟨i, hi, by rw [cutAt_lt hi]; exact h⟩
theorem Hits.more {L M : List Cut} {c : Cut} (h : Hits L c) (hm : ∀ x ∈ L, x ∈ M) : Hits M c := by
  obtain ⟨i, hi, e⟩ := h
  exact hits_of (hm _ (cutAt_mem hi)) e
theorem ins_mem {L : List Cut} {c : Cut} {k : Nat} : ∀ x ∈ L, x ∈ L.take k ++ c :: L.drop k := by
  intro x hx
  rw [← List.take_append_drop k L, List.mem_append] at hx
  rw [List.mem_append]; exact hx.imp id (List.mem_cons_of_mem _)
theorem ins_hits {L : List Cut} {c : Cut} {k : Nat} : Hits (L.take k ++ c :: L.drop k) c := hits_of (x := c) (by simp) (stand_self c)
/-- All right cuts of spans are there. -/
def HitsAll (L : List Cut) (l : List Sp) : Prop := ∀ s ∈ l, (right s.lo = true → Hits L s.lo) ∧ (right s.hi = true → Hits L s.hi)
theorem between : ∀ (L : List Cut) (c : Cut), (L.Pairwise fun x y => stand x y < 0) → (∃ x ∈ L, stand x c ≤ 0) → (∃ y ∈ L, stand c y < 0) → ∃ j, j + 1 < L.length ∧ stand (cutAt L j) c ≤ 0 ∧ stand c (cutAt L (j + 1)) < 0
  | [], _, _, ⟨x, hx, _⟩, _ => by cases hx
  | [a], c, _, ⟨x, hx, h1⟩, ⟨y, hy, h2⟩ => by
    rw [List.mem_singleton] at hx hy; subst hx; subst hy
    exact absurd h2 (le_not h1)
  | a :: b :: r, c, hp, ⟨x, hx, h1⟩, ⟨y, hy, h2⟩ => by
    obtain ⟨p1, p2⟩ := List.pairwise_cons.1 hp
    by_cases g : stand b c ≤ 0
    · have hy' : y ∈ b :: r := by
        rcases List.mem_cons.1 hy with rfl | hy
        · exact absurd (lt_lt (p1 b (List.mem_cons_self ..)) (le_lt g h2)) (by rw [stand_self]; omega)
        · exact hy
      obtain ⟨j, hj, k1, k2⟩ := between (b :: r) c p2 ⟨b, List.mem_cons_self .., g⟩ ⟨y, hy', h2⟩
      exact ⟨j + 1, by simp at hj ⊢; omega, k1, k2⟩
    · refine ⟨0, by simp, ?_, not_le g⟩
      rcases List.mem_cons.1 hx with rfl | hx
      · exact h1
      · exfalso
        rcases List.mem_cons.1 hx with rfl | hx
        · exact g h1
        · have := lt_le ((List.pairwise_cons.1 p2).1 x hx) h1
          omega
theorem Rise.between {L : List Cut} (h : Rise L) {c : Cut} (hc : inOne ⟨Span.low, Span.high⟩ c) : ∃ j, j + 1 < L.length ∧ stand (cutAt L j) c ≤ 0 ∧ stand c (cutAt L (j + 1)) < 0 :=
  Span.between L c h.rise ⟨_, h.low, hc.1⟩ ⟨_, h.high, hc.2⟩
/-- Does a span of right cuts have all between two cuts? -/
def coverOne (lo hi : Cut) (s : Sp) : Bool := right s.lo && right s.hi && decide (cmpC s.lo lo ≤ 0) && decide (0 ≤ cmpC s.hi hi)
def coversB (l : List Sp) (lo hi : Cut) : Bool := l.any (coverOne lo hi)
theorem coverOne_iff {lo hi : Cut} (h1 : right lo = true) (h2 : right hi = true) (s : Sp) : coverOne lo hi s = true ↔ right s.lo = true ∧ right s.hi = true ∧ stand s.lo lo ≤ 0 ∧ stand hi s.hi ≤ 0 := by
  unfold coverOne
  rw [Bool.and_eq_true, Bool.and_eq_true, Bool.and_eq_true, decide_eq_true_eq, decide_eq_true_eq]
  constructor
  · rintro ⟨⟨⟨a, b⟩, c⟩, d⟩
    rw [cmpC_right a h1] at c
    rw [cmpC_right b h2] at d
    have := stand_flip s.hi hi
    exact ⟨a, b, c, by omega⟩
  · rintro ⟨a, b, c, d⟩
    rw [cmpC_right a h1, cmpC_right b h2]
    have := stand_flip s.hi hi
    exact ⟨⟨⟨a, b⟩, c⟩, by omega⟩
theorem covers_iff {L : List Cut} {a : List Sp} (h : Rise L) (ha : HitsAll L a) {j : Nat} (hj : j + 1 < L.length) {c : Cut} (h1 : stand (cutAt L j) c ≤ 0) (h2 : stand c (cutAt L (j + 1)) < 0) : coversB a (cutAt L j) (cutAt L (j + 1)) = true ↔ inR a c := by
  have r1 := h.right _ (cutAt_mem (show j < L.length by omega))
  have r2 := h.right _ (cutAt_mem hj)
  unfold coversB
  rw [List.any_eq_true]
  constructor
  · rintro ⟨s, hs, k⟩
    obtain ⟨a1, a2, a3, a4⟩ := (coverOne_iff r1 r2 s).1 k
    have i : inOne s c := ⟨le_le a3 h1, lt_le h2 a4⟩
    exact ⟨s, hs, (cnt_iff s).2 ⟨a1, a2, le_lt i.1 i.2⟩, i⟩
  · rintro ⟨s, hs, k, i1, i2⟩
    obtain ⟨a1, a2, _⟩ := (cnt_iff s).1 k
    refine ⟨s, hs, (coverOne_iff r1 r2 s).2 ⟨a1, a2, ?_, ?_⟩⟩
    · obtain ⟨p, hp, e⟩ := (ha s hs).1 a1
      have e' := like_flip e
      rcases Nat.lt_or_ge j p with g | g
      · exfalso
        have := h.le (show j + 1 ≤ p by omega) hp
        exact lt_not h2 (le_le (le_le this (by omega)) i1)
      · exact le_le (by omega) (h.le g (by omega))
    · obtain ⟨p, hp, e⟩ := (ha s hs).2 a2
      have e' := like_flip e
      rcases Nat.lt_or_ge j p with g | g
      · exact le_le (h.le (show j + 1 ≤ p by omega) hp) (by omega)
      · exfalso
        have h3 := h.le g (show j < L.length by omega)
        exact lt_not i2 (le_le (le_le (show stand s.hi (cutAt L p) ≤ 0 by omega) h3) h1)
/-- What holds when i pieces were looked at. -/
structure BInv (L : List Cut) (F : Nat → Bool) (i : Nat) (op : Bool) (acc : List Sp) : Prop where
  norm : Norm acc
  cover : ∀ c, inS acc c ↔ ∃ j, j < i ∧ F j = true ∧ stand (cutAt L j) c ≤ 0 ∧ stand c (cutAt L (j + 1)) < 0
  opened : op = true → ∃ pre s, acc = pre ++ [s] ∧ s.hi = cutAt L i
  shut : op = false → ∀ s ∈ acc, stand s.hi (cutAt L i) < 0
  len : acc.length ≤ i
theorem BInv.start (L : List Cut) (F : Nat → Bool) : BInv L F 0 false [] :=
  ⟨Norm.nil, fun c => ⟨fun h => absurd h (inS_nil c), fun ⟨j, hj, _⟩ => by omega⟩, (fun h => by cases h), (fun _ s hs => by cases hs), Nat.le_refl _⟩
theorem Norm.snoc {l : List Sp} {s : Sp} (h : Norm l) (hs : Span.cnt s = true) (hg : ∀ t ∈ l, stand t.hi s.lo < 0) : Norm (l ++ [s]) := by
  refine ⟨fun t ht => ?_, List.pairwise_append.2 ⟨h.gap, List.pairwise_singleton _ _, fun t ht u hu => ?_⟩⟩
  · rcases List.mem_append.1 ht with ht | ht
    · exact h.cnt t ht
    · rw [List.mem_singleton] at ht; subst ht; exact hs
  · rw [List.mem_singleton] at hu; subst hu; exact hg t ht
theorem Norm.unsnoc {l : List Sp} {s : Sp} (h : Norm (l ++ [s])) : Norm l ∧ Span.cnt s = true ∧ ∀ t ∈ l, stand t.hi s.lo < 0 := by
  obtain ⟨p1, _, p3⟩ := List.pairwise_append.1 h.gap
  exact ⟨⟨fun t ht => h.cnt t (List.mem_append_left _ ht), p1⟩, h.cnt s (by simp), fun t ht => p3 t ht s (by simp)⟩
theorem inS_snoc (l : List Sp) (s : Sp) (c : Cut) : inS (l ++ [s]) c ↔ inS l c ∨ inOne s c := by
  constructor
  · rintro ⟨t, ht, h⟩
    rcases List.mem_append.1 ht with ht | ht
    · exact .inl ⟨t, ht, h⟩
    · rw [List.mem_singleton] at ht; subst ht; exact .inr h
  · rintro (⟨t, ht, h⟩ | h)
    · exact ⟨t, List.mem_append_left _ ht, h⟩
    · exact ⟨s, by simp, h⟩
theorem BInv.le {L : List Cut} {F : Nat → Bool} {i : Nat} {op : Bool} {acc : List Sp} (h : BInv L F i op acc) : ∀ s ∈ acc, stand s.hi (cutAt L i) ≤ 0 := by
  intro s hs
  cases op with
  | false => have := h.shut rfl s hs; omega
  | true =>
    obtain ⟨pre, t, rfl, e⟩ := h.opened rfl
    obtain ⟨_, g2, g3⟩ := h.norm.unsnoc
    rcases List.mem_append.1 hs with hs | hs
    · have := lt_lt (g3 s hs) ((cnt_iff t).1 g2).2.2
      rw [e] at this; omega
    · rw [List.mem_singleton] at hs; subst hs; rw [e, stand_self]; exact Int.le_refl 0
theorem cover_no {L : List Cut} {F : Nat → Bool} {i : Nat} (hF : F i = false) (c : Cut) : (∃ j, j < i + 1 ∧ F j = true ∧ stand (cutAt L j) c ≤ 0 ∧ stand c (cutAt L (j + 1)) < 0) ↔ ∃ j, j < i ∧ F j = true ∧ stand (cutAt L j) c ≤ 0 ∧ stand c (cutAt L (j + 1)) < 0 := by
  constructor
  · rintro ⟨j, hj, h1, h2⟩
    refine ⟨j, ?_, h1, h2⟩
    rcases Nat.lt_or_eq_of_le (Nat.le_of_lt_succ hj) with g | g
    · exact g
    · rw [g, hF] at h1; cases h1
  · rintro ⟨j, hj, h⟩; exact ⟨j, by omega, h⟩
theorem cover_yes {L : List Cut} {F : Nat → Bool} {i : Nat} (hF : F i = true) (c : Cut) : (∃ j, j < i + 1 ∧ F j = true ∧ stand (cutAt L j) c ≤ 0 ∧ stand c (cutAt L (j + 1)) < 0) ↔ (∃ j, j < i ∧ F j = true ∧ stand (cutAt L j) c ≤ 0 ∧ stand c (cutAt L (j + 1)) < 0) ∨ (stand (cutAt L i) c ≤ 0 ∧ stand c (cutAt L (i + 1)) < 0) := by
  constructor
  · rintro ⟨j, hj, h1, h2⟩
    rcases Nat.lt_or_eq_of_le (Nat.le_of_lt_succ hj) with g | g
    · exact .inl ⟨j, g, h1, h2⟩
    · subst g; exact .inr h2
  · rintro (⟨j, hj, h⟩ | h)
    · exact ⟨j, by omega, h⟩
    · exact ⟨i, by omega, hF, h⟩
theorem BInv.no {L : List Cut} {F : Nat → Bool} {i : Nat} {op : Bool} {acc : List Sp} (h : BInv L F i op acc) (hL : Rise L) (hi : i + 1 < L.length) (hF : F i = false) : BInv L F (i + 1) false acc :=
  ⟨h.norm, fun c => (h.cover c).trans (cover_no hF c).symm, (fun k => by cases k), fun _ s hs => le_lt (h.le s hs) (hL.lt (Nat.lt_succ_self i) hi), Nat.le_succ_of_le h.len⟩
theorem BInv.new {L : List Cut} {F : Nat → Bool} {i : Nat} {acc : List Sp} (h : BInv L F i false acc) (hL : Rise L) (hi : i + 1 < L.length) (hF : F i = true) : BInv L F (i + 1) true (acc ++ [⟨cutAt L i, cutAt L (i + 1)⟩]) := by
  refine ⟨h.norm.snoc ((cnt_iff _).2 ⟨hL.right _ (cutAt_mem (by omega)), hL.right _ (cutAt_mem hi), hL.lt (Nat.lt_succ_self i) hi⟩) (h.shut rfl), fun c => ?_, fun _ => ⟨acc, _, rfl, rfl⟩, (fun k => by cases k), by rw [List.length_append]; have := h.len; simp; omega⟩
  rw [inS_snoc, cover_yes hF c, h.cover c]; rfl
theorem BInv.on {L : List Cut} {F : Nat → Bool} {i : Nat} {pre : List Sp} {s : Sp} (h : BInv L F i true (pre ++ [s])) (hs : s.hi = cutAt L i) (hL : Rise L) (hi : i + 1 < L.length) (hF : F i = true) : BInv L F (i + 1) true (pre ++ [⟨s.lo, cutAt L (i + 1)⟩]) := by
  obtain ⟨g1, g2, g3⟩ := h.norm.unsnoc
  obtain ⟨k1, k2, k3⟩ := (cnt_iff s).1 g2
  have hlt := hL.lt (Nat.lt_succ_self i) hi
  rw [hs] at k3
  refine ⟨g1.snoc ((cnt_iff _).2 ⟨k1, hL.right _ (cutAt_mem hi), lt_lt k3 hlt⟩) g3, fun c => ?_, fun _ => ⟨pre, _, rfl, rfl⟩, (fun k => by cases k), by have := h.len; rw [List.length_append] at this ⊢; simp at this ⊢; omega⟩
  have hc := h.cover c
  rw [inS_snoc] at hc
  rw [inS_snoc, cover_yes hF c, ← hc, or_assoc]
  refine or_congr Iff.rfl ?_
  show stand s.lo c ≤ 0 ∧ stand c (cutAt L (i + 1)) < 0 ↔ (stand s.lo c ≤ 0 ∧ stand c s.hi < 0) ∨ _
  rw [hs]
  constructor
  · rintro ⟨a, b⟩
    by_cases g : stand (cutAt L i) c ≤ 0
    · exact .inr ⟨g, b⟩
    · exact .inl ⟨a, not_le g⟩
  · rintro (⟨a, b⟩ | ⟨a, b⟩)
    · exact ⟨a, lt_lt b hlt⟩
    · exact ⟨le_le (by omega) a, b⟩
/-- What was built. -/
theorem BInv.done {L : List Cut} {F : Nat → Bool} {i : Nat} {op : Bool} {acc : List Sp} (h : BInv L F i op acc) (hi : ¬ i + 1 < L.length) (c : Cut) (hle : i < L.length) : inS acc c ↔ ∃ j, j + 1 < L.length ∧ F j = true ∧ stand (cutAt L j) c ≤ 0 ∧ stand c (cutAt L (j + 1)) < 0 := by
  rw [h.cover c]
  constructor
  · rintro ⟨j, hj, k⟩; exact ⟨j, by omega, k⟩
  · rintro ⟨j, hj, k⟩; exact ⟨j, by omega, k⟩
theorem Rise.within {L : List Cut} (h : Rise L) {j : Nat} (hj : j + 1 < L.length) {c : Cut} (h1 : stand (cutAt L j) c ≤ 0) (h2 : stand c (cutAt L (j + 1)) < 0) : inOne ⟨Span.low, Span.high⟩ c :=
  ⟨le_le (low_le (h.right _ (cutAt_mem (by omega)))) h1, lt_le h2 (le_high (h.right _ (cutAt_mem hj)))⟩
theorem inR_all {l : List Sp} {c : Cut} (h : inR l c) : inOne ⟨low, high⟩ c := by
  obtain ⟨s, _, k, i1, i2⟩ := h
  obtain ⟨a1, a2, _⟩ := (cnt_iff s).1 k
  exact ⟨le_le (low_le a1) i1, lt_le i2 (le_high a2)⟩
/-- What is in a piece, by how. -/
def howB (how : Int) (x y : Bool) : Bool := if how = 2 then !x else if how = 1 then x && y else x || y
def pieceB (a b : List Sp) (how : Int) (L : List Cut) (j : Nat) : Bool := howB how (coversB a (cutAt L j) (cutAt L (j + 1))) (coversB b (cutAt L j) (cutAt L (j + 1)))
theorem built {L : List Cut} {a b o : List Sp} {how : Int} {i : Nat} {op : Bool} (hL : Rise L) (h : BInv L (pieceB a b how L) i op o) (hi : ¬ i + 1 < L.length) (hle : i < L.length) (ha : HitsAll L a) (hb : HitsAll L b) (c : Cut) :
    inS o c ↔ inOne ⟨low, high⟩ c ∧ (if how = 2 then ¬ inR a c else if how = 1 then inR a c ∧ inR b c else inR a c ∨ inR b c) := by
  rw [h.done hi c hle]
  have key : ∀ j, j + 1 < L.length → stand (cutAt L j) c ≤ 0 → stand c (cutAt L (j + 1)) < 0 → (pieceB a b how L j = true ↔ if how = 2 then ¬ inR a c else if how = 1 then inR a c ∧ inR b c else inR a c ∨ inR b c) := by
    intro j hj h1 h2
    have x := covers_iff hL ha hj h1 h2
    have y := covers_iff hL hb hj h1 h2
    unfold pieceB howB
    by_cases g2 : how = 2
    · rw [if_pos g2, if_pos g2, Bool.not_eq_true', ← Bool.not_eq_true, x]
    · rw [if_neg g2, if_neg g2]
      by_cases g1 : how = 1
      · rw [if_pos g1, if_pos g1, Bool.and_eq_true, x, y]
      · rw [if_neg g1, if_neg g1, Bool.or_eq_true, x, y]
  constructor
  · rintro ⟨j, hj, k, h1, h2⟩
    exact ⟨hL.within hj h1 h2, (key j hj h1 h2).1 k⟩
  · rintro ⟨k, hq⟩
    obtain ⟨j, hj, h1, h2⟩ := hL.between k
    exact ⟨j, hj, (key j hj h1 h2).2 hq, h1, h2⟩
/-- The set that the document builds, as one of the program's. -/
def BuiltOf (a b : List Sp) (how : Int) (o : List Sp) : Prop := Norm o ∧ ∀ c, inS o c ↔ inOne ⟨low, high⟩ c ∧ (if how = 2 then ¬ inR a c else if how = 1 then inR a c ∧ inR b c else inR a c ∨ inR b c)
theorem like_normal {a n o : List Sp} (h : NormalOf a n) (k : BuiltOf a [] 0 o) : Like n o := unique h.1 k.1 fun c => by
  rw [h.2 c, k.2 c, if_neg (by decide), if_neg (by decide)]
  exact ⟨fun g => ⟨inR_all g, .inl g⟩, fun g => g.2.elim id fun g => absurd g (inR_nil c)⟩
theorem like_union {a b n o : List Sp} (h : UnionOf a b n) (k : BuiltOf a b 0 o) : Like n o := unique h.1 k.1 fun c => by
  rw [h.2 c, k.2 c, if_neg (by decide), if_neg (by decide)]
  exact ⟨fun g => ⟨g.elim inR_all inR_all, g⟩, fun g => g.2⟩
theorem like_meet {a b n o : List Sp} (h : MeetOf a b n) (k : BuiltOf a b 1 o) : Like n o := unique h.1 k.1 fun c => by
  rw [h.2 c, k.2 c, if_neg (by decide), if_pos rfl]
  exact ⟨fun g => ⟨inR_all g.1, g⟩, fun g => g.2⟩
theorem like_not {a n o : List Sp} (h : NotOf a n) (k : BuiltOf a [] 2 o) : Like n o := unique h.1 k.1 fun c => by
  rw [h.2 c, k.2 c, if_pos rfl]
end Go.Proofs.YtdbdeadcffpbfaaGreatDoor.Span

namespace Go.Proofs.YtdbdeadcffpbfaaGreatDoor.Span
open Go.RowKit Num Ident Semver Prec

theorem covers_yes {l : List RSp} {x y : Cut} {k : Nat} (hk : k < l.length) (h : coverOne x y (l.getD k default).sp = true) : coversB (l.map RSp.sp) x y = true := by
  unfold coversB; rw [List.any_eq_true]
  exact ⟨_, List.mem_map_of_mem (getS_mem hk), h⟩
theorem covers_no {l : List RSp} {x y : Cut} (h : ∀ j, j < l.length → coverOne x y (l.getD j default).sp = false) : coversB (l.map RSp.sp) x y = false := by
  rw [← Bool.not_eq_true]; unfold coversB; rw [List.any_eq_true]
  rintro ⟨s, hs, k⟩
  obtain ⟨z, hz, rfl⟩ := List.mem_map.1 hs
  obtain ⟨j, hj, rfl⟩ := List.getElem_of_mem hz
  have := h j hj
  rw [show l.getD j default = l[j] by simp [List.getD, List.getElem?_eq_getElem hj], k] at this
  cases this
set_option maxRecDepth 100000 in
set_option maxHeartbeats 6400000 in
theorem covers_any (A : Option Addr) (n c : Nat) (l : List RSp) (x y : RCut) (w : World) (hr : SpRow w A n l) (hn : n ≤ 100000) (hx : Lies w x) (hy : Lies w y) :
    Calls Tryz.prog 24 #[.slice A n c, .agg #[.int .i64 x.kind, .int .u64 (x.v.a : Int), .int .u64 (x.v.b : Int), .int .u64 (x.v.c : Int), .slice x.A x.v.pre.length x.c, .slice x.B x.v.build.length x.d], .agg #[.int .i64 y.kind, .int .u64 (y.v.a : Int), .int .u64 (y.v.b : Int), .int .u64 (y.v.c : Int), .slice y.A y.v.pre.length y.c, .slice y.B y.v.build.length y.d]] w fun e w' => e = .returned (.bool (coversB (l.map RSp.sp) x.cut y.cut)) ∧ Below w.heap.size w w' := by
  have HB : Hid (Below w.heap.size w ((w.alloc (.cells #[.int .i64 x.kind, .int .u64 (x.v.a : Int), .int .u64 (x.v.b : Int), .int .u64 (x.v.c : Int), .slice x.A x.v.pre.length x.c, .slice x.B x.v.build.length x.d] 35)).alloc (.cells #[.int .i64 y.kind, .int .u64 (y.v.a : Int), .int .u64 (y.v.b : Int), .int .u64 (y.v.c : Int), .slice y.A y.v.pre.length y.c, .slice y.B y.v.build.length y.d] 35))) := ((Below.refl _ _).alloc (Nat.le_refl _) _).alloc (by simp) _
  have HR := Lib.hid (hr.kept HB.out)
  have HX := Lib.hid (hx.kept HB.out)
  have HY := Lib.hid (hy.kept HB.out)
  have K0 : Hid (At6B ((w.alloc (.cells #[.int .i64 x.kind, .int .u64 (x.v.a : Int), .int .u64 (x.v.b : Int), .int .u64 (x.v.c : Int), .slice x.A x.v.pre.length x.c, .slice x.B x.v.build.length x.d] 35)).alloc (.cells #[.int .i64 y.kind, .int .u64 (y.v.a : Int), .int .u64 (y.v.b : Int), .int .u64 (y.v.c : Int), .slice y.A y.v.pre.length y.c, .slice y.B y.v.build.length y.d] 35)) w.heap.size (.int .i64 x.kind) (.int .u64 (x.v.a : Int)) (.int .u64 (x.v.b : Int)) (.int .u64 (x.v.c : Int)) (.slice x.A x.v.pre.length x.c) (.slice x.B x.v.build.length x.d)) := (At6B.new w _ _ _ _ _ _ _).kept ((Below.refl _ _).alloc (Nat.le_refl _) _) (by simp)
  have J0 : Hid (At6B ((w.alloc (.cells #[.int .i64 x.kind, .int .u64 (x.v.a : Int), .int .u64 (x.v.b : Int), .int .u64 (x.v.c : Int), .slice x.A x.v.pre.length x.c, .slice x.B x.v.build.length x.d] 35)).alloc (.cells #[.int .i64 y.kind, .int .u64 (y.v.a : Int), .int .u64 (y.v.b : Int), .int .u64 (y.v.c : Int), .slice y.A y.v.pre.length y.c, .slice y.B y.v.build.length y.d] 35)) (w.heap.size + 1) (.int .i64 y.kind) (.int .u64 (y.v.a : Int)) (.int .u64 (y.v.b : Int)) (.int .u64 (y.v.c : Int)) (.slice y.A y.v.pre.length y.c) (.slice y.B y.v.build.length y.d)) := by
    have := At6B.new (w.alloc (.cells #[.int .i64 x.kind, .int .u64 (x.v.a : Int), .int .u64 (x.v.b : Int), .int .u64 (x.v.c : Int), .slice x.A x.v.pre.length x.c, .slice x.B x.v.build.length x.d] 35)) 35 (.int .i64 y.kind) (.int .u64 (y.v.a : Int)) (.int .u64 (y.v.b : Int)) (.int .u64 (y.v.c : Int)) (.slice y.A y.v.pre.length y.c) (.slice y.B y.v.build.length y.d)
    rw [size_alloc] at this; exact this
  have HLX := Lib.hid hr.1
  clear hr hx hy
  go_enter Tryz.func24, Tryz.ntmps24
  go_upto_region 1 with (fail)
  generalize ((w.alloc (.cells #[.int .i64 x.kind, .int .u64 (x.v.a : Int), .int .u64 (x.v.b : Int), .int .u64 (x.v.c : Int), .slice x.A x.v.pre.length x.c, .slice x.B x.v.build.length x.d] 35)).alloc (.cells #[.int .i64 y.kind, .int .u64 (y.v.a : Int), .int .u64 (y.v.b : Int), .int .u64 (y.v.c : Int), .slice y.A y.v.pre.length y.c, .slice y.B y.v.build.length y.d] 35)) = W at HB HR HX HY K0 J0 ⊢
  go_wp2
  go_loopw [7] (fun i W' => ∃ k : Nat, k ≤ n ∧ i = .int .i64 k ∧ Hid (∀ j, j < k → coverOne x.cut y.cut (l.getD j default).sp = false) ∧ Hid (Below W.heap.size W W')) (fun i _ => n - (intOf i).toNat)
  case atStart => exact ⟨0, Nat.zero_le _, rfl, (fun j hj => by omega), Below.refl _ _⟩
  case round =>
    obtain ⟨k, hk, rfl, HT, HW⟩ := hrel
    by_cases hlt : k < n
    · have HR1 := Lib.hid (HR.out.kept HW.out)
      obtain ⟨b, o, rfl, hb1, hc⟩ := HR1.out.2.2 (by omega)
      have C1 : Hid (SpAt wr b (o + k * 12) (l.getD k default)) := hc k hlt
      have LS := Lib.hid (HR1.out.lies hlt)
      have HYes : Hid (coverOne x.cut y.cut (l.getD k default).sp = true → coversB (l.map RSp.sp) x.cut y.cut = true) := covers_yes (by rw [HLX.out]; exact hlt)
      have HNo : Hid (coverOne x.cut y.cut (l.getD k default).sp = false → ∀ j, j < k + 1 → coverOne x.cut y.cut (l.getD j default).sp = false) := fun h j hj => by
        rcases Nat.lt_or_ge j k with g | g
        · exact HT.out j g
        · obtain rfl : j = k := by omega
          exact h
      clear hc
      generalize l.getD k default = s at C1 LS HYes HNo
      have K1 := Lib.hid (K0.out.kept HW.out K0.out.1)
      have J1 := Lib.hid (J0.out.kept HW.out J0.out.1)
      have LX := Lib.hid (HX.out.kept HW.out)
      have LY := Lib.hid (HY.out.kept HW.out)
      go_upto_region 4 with (fail)
      go_cut [47] (fun z wx => z = .bool (coverOne x.cut y.cut s.sp) ∧ Below W.heap.size W wx)
      case first =>
        cases g1 : right s.lo.cut
        · have G1 := Lib.hid g1
          have HF : Hid (coverOne x.cut y.cut s.sp = false) := by unfold Hid coverOne; rw [show right s.sp.lo = false from g1]; rfl
          clear g1
          replace C1 : Hid (SpAt wr.drew b (o + k * 12) s) := C1.out
          replace K1 : Hid (At6B wr.drew w.heap.size (.int .i64 x.kind) (.int .u64 (x.v.a : Int)) (.int .u64 (x.v.b : Int)) (.int .u64 (x.v.c : Int)) (.slice x.A x.v.pre.length x.c) (.slice x.B x.v.build.length x.d)) := K1.out
          replace J1 : Hid (At6B wr.drew (w.heap.size + 1) (.int .i64 y.kind) (.int .u64 (y.v.a : Int)) (.int .u64 (y.v.b : Int)) (.int .u64 (y.v.c : Int)) (.slice y.A y.v.pre.length y.c) (.slice y.B y.v.build.length y.d)) := J1.out
          replace LS : Hid (LiesS wr.drew s) := LS.out.kept (Below.refl _ _).drew
          replace LX : Hid (Lies wr.drew x) := LX.out.kept (Below.refl _ _).drew
          replace LY : Hid (Lies wr.drew y) := LY.out.kept (Below.refl _ _).drew
          replace HW := Lib.hid HW.out.drew
          replace hb1 : b < wr.drew.heap.size := hb1
          refine wp_region_held_drew (S := fun w' => SpAt w' b (o + k * 12) s ∧ At6B w' w.heap.size (.int .i64 x.kind) (.int .u64 (x.v.a : Int)) (.int .u64 (x.v.b : Int)) (.int .u64 (x.v.c : Int)) (.slice x.A x.v.pre.length x.c) (.slice x.B x.v.build.length x.d) ∧ At6B w' (w.heap.size + 1) (.int .i64 y.kind) (.int .u64 (y.v.a : Int)) (.int .u64 (y.v.b : Int)) (.int .u64 (y.v.c : Int)) (.slice y.A y.v.pre.length y.c) (.slice y.B y.v.build.length y.d)) (by kernel_rfl) ⟨C1.out, K1.out, J1.out⟩ (fun hHeld => ?_)
          refine wpAnyH_take (i := 0) (oi := { dst := some 14, op := Op.move (Operand.tmp 0), type := 22, pos := "ref.go:89", after := #[], guard := none }) (v := .slice (some ⟨b, o, none⟩) n c) rfl (by kernel_rfl) (by kernel_rfl) (by kernel_rfl) (fun _ _ _ h => h) (Or.inl ⟨by rfl, fun w' hS' => by go_simp⟩) (by assumption) ?_
          simp only [Act.put, List.setIfInBounds_toArray, List.set_cons_zero, List.set_cons_succ]
          refine wpAnyH_take (i := 1) (oi := { dst := some 15, op := Op.move (Operand.tmp 7), type := 3, pos := "ref.go:89", after := #[], guard := none }) (v := .int .i64 (k : Int)) rfl (by kernel_rfl) (by kernel_rfl) (by kernel_rfl) (fun _ _ _ h => h) (Or.inl ⟨by rfl, fun w' hS' => by go_simp⟩) (by assumption) ?_
          simp only [Act.put, List.setIfInBounds_toArray, List.set_cons_zero, List.set_cons_succ]
          refine wpAnyH_take (i := 2) (oi := { dst := some 16, op := Op.indexAddr 22 (Operand.tmp 14) (Operand.tmp 15), type := 0, pos := "ref.go:89", after := #[{ on := 0, ground := Ground.data }, { on := 1, ground := Ground.data }], guard := none }) (v := .pointer (some ⟨b, o + k * 12, none⟩)) rfl (by kernel_rfl) (by kernel_rfl) (by kernel_rfl) (fun _ _ _ h => h) (Or.inl ⟨by rfl, fun w' hS' => by go_simp⟩) (by assumption) ?_
          simp only [Act.put, List.setIfInBounds_toArray, List.set_cons_zero, List.set_cons_succ]
          refine wpAnyH_take (i := 3) (oi := { dst := some 17, op := Op.fieldAddr 37 (Operand.tmp 16) 0, type := 0, pos := "ref.go:89", after := #[{ on := 2, ground := Ground.data }], guard := none }) (v := .pointer (some ⟨b, o + k * 12, none⟩)) rfl (by kernel_rfl) (by kernel_rfl) (by kernel_rfl) (fun _ _ _ h => h) (Or.inl ⟨by rfl, fun w' hS' => by go_simp⟩) (by assumption) ?_
          simp only [Act.put, List.setIfInBounds_toArray, List.set_cons_zero, List.set_cons_succ]
          refine wpAnyH_take (i := 4) (oi := { dst := some 18, op := Op.load 35 (Operand.tmp 17), type := 35, pos := "ref.go:89", after := #[{ on := 3, ground := Ground.data }], guard := none }) (v := .agg #[.int .i64 s.lo.kind, .int .u64 (s.lo.v.a : Int), .int .u64 (s.lo.v.b : Int), .int .u64 (s.lo.v.c : Int), .slice s.lo.A s.lo.v.pre.length s.lo.c, .slice s.lo.B s.lo.v.build.length s.lo.d]) rfl (by kernel_rfl) (by kernel_rfl) (by kernel_rfl) (fun _ _ _ h => h) (Or.inl ⟨by rfl, fun w' hS' => by obtain ⟨q0, q1, q2, q3, q4, q5, q6, q7, q8, q9, q10, q11⟩ := hS'.1.cells; go_simp⟩) (by assumption) ?_
          simp only [Act.put, List.setIfInBounds_toArray, List.set_cons_zero, List.set_cons_succ]
          refine wpAnyH_ready (rs := [5]) (by kernel_rfl) (by simp) ?_
          refine AllReadyH.cons (o := { dst := some 19, op := Op.call { callee := Callee.value (Operand.func 14), args := #[Operand.tmp 18], argTypes := #[35] }, type := 4, pos := "ref.go:89", after := #[{ on := 4, ground := Ground.data }], guard := none }) rfl (fun K hK => ?_) AllReadyH.nil
          go_simp
          refine (refRight_any s.lo _ LS.out.lo).mono ?_
          rintro e wq1 ⟨he, hb⟩
          rw [G1.out] at he
          subst he
          replace C1 := Lib.hid (C1.out.kept hb hb1)
          replace K1 := Lib.hid (K1.out.kept hb K1.out.1)
          replace J1 := Lib.hid (J1.out.kept hb J1.out.1)
          replace LS := Lib.hid (LS.out.kept hb)
          replace LX := Lib.hid (LX.out.kept hb)
          replace LY := Lib.hid (LY.out.kept hb)
          replace HW := Lib.hid (HW.out.trans (hb.mono HW.out.size))
          replace hb1 := Nat.lt_of_lt_of_le hb1 hb.size
          clear hb hHeld
          refine hK.out _ _ ⟨C1.out, K1.out, J1.out⟩ (fun hHeld => ?_)
          clear hK K
          try simp only [Act.put, List.setIfInBounds_toArray, List.set_cons_zero, List.set_cons_succ]
          refine wpAnyH_take (i := 6) (oi := { dst := some 20, op := Op.move (Operand.tmp 19), type := 4, pos := "ref.go:89", after := #[{ on := 5, ground := Ground.data }, { on := 5, ground := Ground.chain }], guard := none }) (v := .bool false) rfl (by kernel_rfl) (by kernel_rfl) (by kernel_rfl) (fun _ _ _ h => h) (Or.inl ⟨by rfl, fun w' hS' => by go_simp⟩) (by assumption) ?_
          simp only [Act.put, List.setIfInBounds_toArray, List.set_cons_zero, List.set_cons_succ]
          refine wpAnyH_take (i := 7) (oi := { dst := some 21, op := Op.move (Operand.tmp 0), type := 22, pos := "ref.go:89", after := #[{ on := 6, ground := Ground.guard }], guard := some (6, true) }) (v := undef) rfl (by kernel_rfl) (by kernel_rfl) (by kernel_rfl) (fun _ _ _ h => h) (Or.inr ⟨by rfl, rfl⟩) (by assumption) ?_
          simp only [Act.put, List.setIfInBounds_toArray, List.set_cons_zero, List.set_cons_succ]
          refine wpAnyH_take (i := 8) (oi := { dst := some 22, op := Op.move (Operand.tmp 7), type := 3, pos := "ref.go:89", after := #[{ on := 6, ground := Ground.guard }], guard := some (6, true) }) (v := undef) rfl (by kernel_rfl) (by kernel_rfl) (by kernel_rfl) (fun _ _ _ h => h) (Or.inr ⟨by rfl, rfl⟩) (by assumption) ?_
          simp only [Act.put, List.setIfInBounds_toArray, List.set_cons_zero, List.set_cons_succ]
          refine wpAnyH_take (i := 9) (oi := { dst := some 23, op := Op.indexAddr 22 (Operand.tmp 21) (Operand.tmp 22), type := 0, pos := "ref.go:89", after := #[{ on := 7, ground := Ground.data }, { on := 8, ground := Ground.data }, { on := 6, ground := Ground.guard }], guard := some (6, true) }) (v := undef) rfl (by kernel_rfl) (by kernel_rfl) (by kernel_rfl) (fun _ _ _ h => h) (Or.inr ⟨by rfl, rfl⟩) (by assumption) ?_
          simp only [Act.put, List.setIfInBounds_toArray, List.set_cons_zero, List.set_cons_succ]
          refine wpAnyH_take (i := 10) (oi := { dst := some 24, op := Op.fieldAddr 37 (Operand.tmp 23) 1, type := 0, pos := "ref.go:89", after := #[{ on := 9, ground := Ground.data }, { on := 6, ground := Ground.guard }], guard := some (6, true) }) (v := undef) rfl (by kernel_rfl) (by kernel_rfl) (by kernel_rfl) (fun _ _ _ h => h) (Or.inr ⟨by rfl, rfl⟩) (by assumption) ?_
          simp only [Act.put, List.setIfInBounds_toArray, List.set_cons_zero, List.set_cons_succ]
          refine wpAnyH_take (i := 11) (oi := { dst := some 25, op := Op.load 35 (Operand.tmp 24), type := 35, pos := "ref.go:89", after := #[{ on := 10, ground := Ground.data }, { on := 6, ground := Ground.guard }], guard := some (6, true) }) (v := undef) rfl (by kernel_rfl) (by kernel_rfl) (by kernel_rfl) (fun _ _ _ h => h) (Or.inr ⟨by rfl, rfl⟩) (by assumption) ?_
          simp only [Act.put, List.setIfInBounds_toArray, List.set_cons_zero, List.set_cons_succ]
          refine wpAnyH_take (i := 12) (oi := { dst := some 26, op := Op.call { callee := Callee.value (Operand.func 14), args := #[Operand.tmp 25], argTypes := #[35] }, type := 4, pos := "ref.go:89", after := #[{ on := 11, ground := Ground.data }, { on := 6, ground := Ground.chain }, { on := 6, ground := Ground.guard }], guard := some (6, true) }) (v := undef) rfl (by kernel_rfl) (by kernel_rfl) (by kernel_rfl) (fun _ _ _ h => h) (Or.inr ⟨by rfl, rfl⟩) (by assumption) ?_
          simp only [Act.put, List.setIfInBounds_toArray, List.set_cons_zero, List.set_cons_succ]
          refine wpAnyH_take (i := 13) (oi := { dst := some 27, op := Op.pick (Operand.tmp 20) (Operand.tmp 26) (Operand.const (Value.bool false)), type := 4, pos := "ref.go:89", after := #[{ on := 6, ground := Ground.data }, { on := 12, ground := Ground.data }], guard := none }) (v := .bool false) rfl (by kernel_rfl) (by kernel_rfl) (by kernel_rfl) (fun _ _ _ h => h) (Or.inl ⟨by rfl, fun w' hS' => by go_simp⟩) (by assumption) ?_
          simp only [Act.put, List.setIfInBounds_toArray, List.set_cons_zero, List.set_cons_succ]
          refine wpAnyH_take (i := 14) (oi := { dst := some 28, op := Op.move (Operand.tmp 27), type := 4, pos := "ref.go:89", after := #[{ on := 13, ground := Ground.data }, { on := 12, ground := Ground.chain }], guard := none }) (v := .bool false) rfl (by kernel_rfl) (by kernel_rfl) (by kernel_rfl) (fun _ _ _ h => h) (Or.inl ⟨by rfl, fun w' hS' => by go_simp⟩) (by assumption) ?_
          simp only [Act.put, List.setIfInBounds_toArray, List.set_cons_zero, List.set_cons_succ]
          refine wpAnyH_take (i := 15) (oi := { dst := some 29, op := Op.move (Operand.tmp 0), type := 22, pos := "ref.go:89", after := #[{ on := 14, ground := Ground.guard }], guard := some (14, true) }) (v := undef) rfl (by kernel_rfl) (by kernel_rfl) (by kernel_rfl) (fun _ _ _ h => h) (Or.inr ⟨by rfl, rfl⟩) (by assumption) ?_
          simp only [Act.put, List.setIfInBounds_toArray, List.set_cons_zero, List.set_cons_succ]
          refine wpAnyH_take (i := 16) (oi := { dst := some 30, op := Op.move (Operand.tmp 7), type := 3, pos := "ref.go:89", after := #[{ on := 14, ground := Ground.guard }], guard := some (14, true) }) (v := undef) rfl (by kernel_rfl) (by kernel_rfl) (by kernel_rfl) (fun _ _ _ h => h) (Or.inr ⟨by rfl, rfl⟩) (by assumption) ?_
          simp only [Act.put, List.setIfInBounds_toArray, List.set_cons_zero, List.set_cons_succ]
          refine wpAnyH_take (i := 17) (oi := { dst := some 31, op := Op.indexAddr 22 (Operand.tmp 29) (Operand.tmp 30), type := 0, pos := "ref.go:89", after := #[{ on := 15, ground := Ground.data }, { on := 16, ground := Ground.data }, { on := 14, ground := Ground.guard }], guard := some (14, true) }) (v := undef) rfl (by kernel_rfl) (by kernel_rfl) (by kernel_rfl) (fun _ _ _ h => h) (Or.inr ⟨by rfl, rfl⟩) (by assumption) ?_
          simp only [Act.put, List.setIfInBounds_toArray, List.set_cons_zero, List.set_cons_succ]
          refine wpAnyH_take (i := 18) (oi := { dst := some 32, op := Op.fieldAddr 37 (Operand.tmp 31) 0, type := 0, pos := "ref.go:89", after := #[{ on := 17, ground := Ground.data }, { on := 14, ground := Ground.guard }], guard := some (14, true) }) (v := undef) rfl (by kernel_rfl) (by kernel_rfl) (by kernel_rfl) (fun _ _ _ h => h) (Or.inr ⟨by rfl, rfl⟩) (by assumption) ?_
          simp only [Act.put, List.setIfInBounds_toArray, List.set_cons_zero, List.set_cons_succ]
          refine wpAnyH_take (i := 19) (oi := { dst := some 33, op := Op.load 35 (Operand.tmp 32), type := 35, pos := "ref.go:89", after := #[{ on := 18, ground := Ground.data }, { on := 14, ground := Ground.guard }], guard := some (14, true) }) (v := undef) rfl (by kernel_rfl) (by kernel_rfl) (by kernel_rfl) (fun _ _ _ h => h) (Or.inr ⟨by rfl, rfl⟩) (by assumption) ?_
          simp only [Act.put, List.setIfInBounds_toArray, List.set_cons_zero, List.set_cons_succ]
          refine wpAnyH_take (i := 20) (oi := { dst := some 34, op := Op.load 35 (Operand.tmp 4), type := 35, pos := "ref.go:89", after := #[{ on := 14, ground := Ground.guard }], guard := some (14, true) }) (v := undef) rfl (by kernel_rfl) (by kernel_rfl) (by kernel_rfl) (fun _ _ _ h => h) (Or.inr ⟨by rfl, rfl⟩) (by assumption) ?_
          simp only [Act.put, List.setIfInBounds_toArray, List.set_cons_zero, List.set_cons_succ]
          refine wpAnyH_take (i := 21) (oi := { dst := some 35, op := Op.call { callee := Callee.value (Operand.func 19), args := #[Operand.tmp 33, Operand.tmp 34], argTypes := #[35, 35] }, type := 3, pos := "ref.go:89", after := #[{ on := 19, ground := Ground.data }, { on := 20, ground := Ground.data }, { on := 14, ground := Ground.chain }, { on := 14, ground := Ground.guard }], guard := some (14, true) }) (v := undef) rfl (by kernel_rfl) (by kernel_rfl) (by kernel_rfl) (fun _ _ _ h => h) (Or.inr ⟨by rfl, rfl⟩) (by assumption) ?_
          simp only [Act.put, List.setIfInBounds_toArray, List.set_cons_zero, List.set_cons_succ]
          refine wpAnyH_take (i := 22) (oi := { dst := some 36, op := Op.binOp BinOp.leq 3 (Operand.tmp 35) (Operand.const (Value.int IntKind.i64 0)) 3, type := 4, pos := "ref.go:89", after := #[{ on := 21, ground := Ground.data }, { on := 14, ground := Ground.guard }], guard := some (14, true) }) (v := undef) rfl (by kernel_rfl) (by kernel_rfl) (by kernel_rfl) (fun _ _ _ h => h) (Or.inr ⟨by rfl, rfl⟩) (by assumption) ?_
          simp only [Act.put, List.setIfInBounds_toArray, List.set_cons_zero, List.set_cons_succ]
          refine wpAnyH_take (i := 23) (oi := { dst := some 37, op := Op.pick (Operand.tmp 28) (Operand.tmp 36) (Operand.const (Value.bool false)), type := 4, pos := "ref.go:89", after := #[{ on := 14, ground := Ground.data }, { on := 22, ground := Ground.data }], guard := none }) (v := .bool false) rfl (by kernel_rfl) (by kernel_rfl) (by kernel_rfl) (fun _ _ _ h => h) (Or.inl ⟨by rfl, fun w' hS' => by go_simp⟩) (by assumption) ?_
          simp only [Act.put, List.setIfInBounds_toArray, List.set_cons_zero, List.set_cons_succ]
          refine wpAnyH_take (i := 24) (oi := { dst := some 38, op := Op.move (Operand.tmp 37), type := 4, pos := "ref.go:89", after := #[{ on := 23, ground := Ground.data }, { on := 21, ground := Ground.chain }], guard := none }) (v := .bool false) rfl (by kernel_rfl) (by kernel_rfl) (by kernel_rfl) (fun _ _ _ h => h) (Or.inl ⟨by rfl, fun w' hS' => by go_simp⟩) (by assumption) ?_
          simp only [Act.put, List.setIfInBounds_toArray, List.set_cons_zero, List.set_cons_succ]
          refine wpAnyH_take (i := 25) (oi := { dst := some 39, op := Op.move (Operand.tmp 0), type := 22, pos := "ref.go:89", after := #[{ on := 24, ground := Ground.guard }], guard := some (24, true) }) (v := undef) rfl (by kernel_rfl) (by kernel_rfl) (by kernel_rfl) (fun _ _ _ h => h) (Or.inr ⟨by rfl, rfl⟩) (by assumption) ?_
          simp only [Act.put, List.setIfInBounds_toArray, List.set_cons_zero, List.set_cons_succ]
          refine wpAnyH_take (i := 26) (oi := { dst := some 40, op := Op.move (Operand.tmp 7), type := 3, pos := "ref.go:89", after := #[{ on := 24, ground := Ground.guard }], guard := some (24, true) }) (v := undef) rfl (by kernel_rfl) (by kernel_rfl) (by kernel_rfl) (fun _ _ _ h => h) (Or.inr ⟨by rfl, rfl⟩) (by assumption) ?_
          simp only [Act.put, List.setIfInBounds_toArray, List.set_cons_zero, List.set_cons_succ]
          refine wpAnyH_take (i := 27) (oi := { dst := some 41, op := Op.indexAddr 22 (Operand.tmp 39) (Operand.tmp 40), type := 0, pos := "ref.go:89", after := #[{ on := 25, ground := Ground.data }, { on := 26, ground := Ground.data }, { on := 24, ground := Ground.guard }], guard := some (24, true) }) (v := undef) rfl (by kernel_rfl) (by kernel_rfl) (by kernel_rfl) (fun _ _ _ h => h) (Or.inr ⟨by rfl, rfl⟩) (by assumption) ?_
          simp only [Act.put, List.setIfInBounds_toArray, List.set_cons_zero, List.set_cons_succ]
          refine wpAnyH_take (i := 28) (oi := { dst := some 42, op := Op.fieldAddr 37 (Operand.tmp 41) 1, type := 0, pos := "ref.go:89", after := #[{ on := 27, ground := Ground.data }, { on := 24, ground := Ground.guard }], guard := some (24, true) }) (v := undef) rfl (by kernel_rfl) (by kernel_rfl) (by kernel_rfl) (fun _ _ _ h => h) (Or.inr ⟨by rfl, rfl⟩) (by assumption) ?_
          simp only [Act.put, List.setIfInBounds_toArray, List.set_cons_zero, List.set_cons_succ]
          refine wpAnyH_take (i := 29) (oi := { dst := some 43, op := Op.load 35 (Operand.tmp 42), type := 35, pos := "ref.go:89", after := #[{ on := 28, ground := Ground.data }, { on := 24, ground := Ground.guard }], guard := some (24, true) }) (v := undef) rfl (by kernel_rfl) (by kernel_rfl) (by kernel_rfl) (fun _ _ _ h => h) (Or.inr ⟨by rfl, rfl⟩) (by assumption) ?_
          simp only [Act.put, List.setIfInBounds_toArray, List.set_cons_zero, List.set_cons_succ]
          refine wpAnyH_take (i := 30) (oi := { dst := some 44, op := Op.load 35 (Operand.tmp 5), type := 35, pos := "ref.go:89", after := #[{ on := 24, ground := Ground.guard }], guard := some (24, true) }) (v := undef) rfl (by kernel_rfl) (by kernel_rfl) (by kernel_rfl) (fun _ _ _ h => h) (Or.inr ⟨by rfl, rfl⟩) (by assumption) ?_
          simp only [Act.put, List.setIfInBounds_toArray, List.set_cons_zero, List.set_cons_succ]
          refine wpAnyH_take (i := 31) (oi := { dst := some 45, op := Op.call { callee := Callee.value (Operand.func 19), args := #[Operand.tmp 43, Operand.tmp 44], argTypes := #[35, 35] }, type := 3, pos := "ref.go:89", after := #[{ on := 29, ground := Ground.data }, { on := 30, ground := Ground.data }, { on := 24, ground := Ground.chain }, { on := 24, ground := Ground.guard }], guard := some (24, true) }) (v := undef) rfl (by kernel_rfl) (by kernel_rfl) (by kernel_rfl) (fun _ _ _ h => h) (Or.inr ⟨by rfl, rfl⟩) (by assumption) ?_
          simp only [Act.put, List.setIfInBounds_toArray, List.set_cons_zero, List.set_cons_succ]
          refine wpAnyH_take (i := 32) (oi := { dst := some 46, op := Op.binOp BinOp.geq 3 (Operand.tmp 45) (Operand.const (Value.int IntKind.i64 0)) 3, type := 4, pos := "ref.go:89", after := #[{ on := 31, ground := Ground.data }, { on := 24, ground := Ground.guard }], guard := some (24, true) }) (v := undef) rfl (by kernel_rfl) (by kernel_rfl) (by kernel_rfl) (fun _ _ _ h => h) (Or.inr ⟨by rfl, rfl⟩) (by assumption) ?_
          simp only [Act.put, List.setIfInBounds_toArray, List.set_cons_zero, List.set_cons_succ]
          refine wpAnyH_take (i := 33) (oi := { dst := some 47, op := Op.pick (Operand.tmp 38) (Operand.tmp 46) (Operand.const (Value.bool false)), type := 4, pos := "ref.go:89", after := #[{ on := 24, ground := Ground.data }, { on := 32, ground := Ground.data }], guard := none }) (v := .bool false) rfl (by kernel_rfl) (by kernel_rfl) (by kernel_rfl) (fun _ _ _ h => h) (Or.inl ⟨by rfl, fun w' hS' => by go_simp⟩) (by assumption) ?_
          simp only [Act.put, List.setIfInBounds_toArray, List.set_cons_zero, List.set_cons_succ]
          refine wpAnyH_done (by kernel_rfl) ?_ _
          go_wp2
          go_meet
          exact ⟨by rw [HF.out], HW.out⟩
        cases g2 : right s.hi.cut
        · have G1 := Lib.hid g1
          have G2 := Lib.hid g2
          have HF : Hid (coverOne x.cut y.cut s.sp = false) := by unfold Hid coverOne; rw [show right s.sp.hi = false from g2, Bool.and_false]; rfl
          clear g1 g2
          replace C1 : Hid (SpAt wr.drew b (o + k * 12) s) := C1.out
          replace K1 : Hid (At6B wr.drew w.heap.size (.int .i64 x.kind) (.int .u64 (x.v.a : Int)) (.int .u64 (x.v.b : Int)) (.int .u64 (x.v.c : Int)) (.slice x.A x.v.pre.length x.c) (.slice x.B x.v.build.length x.d)) := K1.out
          replace J1 : Hid (At6B wr.drew (w.heap.size + 1) (.int .i64 y.kind) (.int .u64 (y.v.a : Int)) (.int .u64 (y.v.b : Int)) (.int .u64 (y.v.c : Int)) (.slice y.A y.v.pre.length y.c) (.slice y.B y.v.build.length y.d)) := J1.out
          replace LS : Hid (LiesS wr.drew s) := LS.out.kept (Below.refl _ _).drew
          replace LX : Hid (Lies wr.drew x) := LX.out.kept (Below.refl _ _).drew
          replace LY : Hid (Lies wr.drew y) := LY.out.kept (Below.refl _ _).drew
          replace HW := Lib.hid HW.out.drew
          replace hb1 : b < wr.drew.heap.size := hb1
          refine wp_region_held_drew (S := fun w' => SpAt w' b (o + k * 12) s ∧ At6B w' w.heap.size (.int .i64 x.kind) (.int .u64 (x.v.a : Int)) (.int .u64 (x.v.b : Int)) (.int .u64 (x.v.c : Int)) (.slice x.A x.v.pre.length x.c) (.slice x.B x.v.build.length x.d) ∧ At6B w' (w.heap.size + 1) (.int .i64 y.kind) (.int .u64 (y.v.a : Int)) (.int .u64 (y.v.b : Int)) (.int .u64 (y.v.c : Int)) (.slice y.A y.v.pre.length y.c) (.slice y.B y.v.build.length y.d)) (by kernel_rfl) ⟨C1.out, K1.out, J1.out⟩ (fun hHeld => ?_)
          refine wpAnyH_take (i := 0) (oi := { dst := some 14, op := Op.move (Operand.tmp 0), type := 22, pos := "ref.go:89", after := #[], guard := none }) (v := .slice (some ⟨b, o, none⟩) n c) rfl (by kernel_rfl) (by kernel_rfl) (by kernel_rfl) (fun _ _ _ h => h) (Or.inl ⟨by rfl, fun w' hS' => by go_simp⟩) (by assumption) ?_
          simp only [Act.put, List.setIfInBounds_toArray, List.set_cons_zero, List.set_cons_succ]
          refine wpAnyH_take (i := 1) (oi := { dst := some 15, op := Op.move (Operand.tmp 7), type := 3, pos := "ref.go:89", after := #[], guard := none }) (v := .int .i64 (k : Int)) rfl (by kernel_rfl) (by kernel_rfl) (by kernel_rfl) (fun _ _ _ h => h) (Or.inl ⟨by rfl, fun w' hS' => by go_simp⟩) (by assumption) ?_
          simp only [Act.put, List.setIfInBounds_toArray, List.set_cons_zero, List.set_cons_succ]
          refine wpAnyH_take (i := 2) (oi := { dst := some 16, op := Op.indexAddr 22 (Operand.tmp 14) (Operand.tmp 15), type := 0, pos := "ref.go:89", after := #[{ on := 0, ground := Ground.data }, { on := 1, ground := Ground.data }], guard := none }) (v := .pointer (some ⟨b, o + k * 12, none⟩)) rfl (by kernel_rfl) (by kernel_rfl) (by kernel_rfl) (fun _ _ _ h => h) (Or.inl ⟨by rfl, fun w' hS' => by go_simp⟩) (by assumption) ?_
          simp only [Act.put, List.setIfInBounds_toArray, List.set_cons_zero, List.set_cons_succ]
          refine wpAnyH_take (i := 3) (oi := { dst := some 17, op := Op.fieldAddr 37 (Operand.tmp 16) 0, type := 0, pos := "ref.go:89", after := #[{ on := 2, ground := Ground.data }], guard := none }) (v := .pointer (some ⟨b, o + k * 12, none⟩)) rfl (by kernel_rfl) (by kernel_rfl) (by kernel_rfl) (fun _ _ _ h => h) (Or.inl ⟨by rfl, fun w' hS' => by go_simp⟩) (by assumption) ?_
          simp only [Act.put, List.setIfInBounds_toArray, List.set_cons_zero, List.set_cons_succ]
          refine wpAnyH_take (i := 4) (oi := { dst := some 18, op := Op.load 35 (Operand.tmp 17), type := 35, pos := "ref.go:89", after := #[{ on := 3, ground := Ground.data }], guard := none }) (v := .agg #[.int .i64 s.lo.kind, .int .u64 (s.lo.v.a : Int), .int .u64 (s.lo.v.b : Int), .int .u64 (s.lo.v.c : Int), .slice s.lo.A s.lo.v.pre.length s.lo.c, .slice s.lo.B s.lo.v.build.length s.lo.d]) rfl (by kernel_rfl) (by kernel_rfl) (by kernel_rfl) (fun _ _ _ h => h) (Or.inl ⟨by rfl, fun w' hS' => by obtain ⟨q0, q1, q2, q3, q4, q5, q6, q7, q8, q9, q10, q11⟩ := hS'.1.cells; go_simp⟩) (by assumption) ?_
          simp only [Act.put, List.setIfInBounds_toArray, List.set_cons_zero, List.set_cons_succ]
          refine wpAnyH_ready (rs := [5]) (by kernel_rfl) (by simp) ?_
          refine AllReadyH.cons (o := { dst := some 19, op := Op.call { callee := Callee.value (Operand.func 14), args := #[Operand.tmp 18], argTypes := #[35] }, type := 4, pos := "ref.go:89", after := #[{ on := 4, ground := Ground.data }], guard := none }) rfl (fun K hK => ?_) AllReadyH.nil
          go_simp
          refine (refRight_any s.lo _ LS.out.lo).mono ?_
          rintro e wq1 ⟨he, hb⟩
          rw [G1.out] at he
          subst he
          replace C1 := Lib.hid (C1.out.kept hb hb1)
          replace K1 := Lib.hid (K1.out.kept hb K1.out.1)
          replace J1 := Lib.hid (J1.out.kept hb J1.out.1)
          replace LS := Lib.hid (LS.out.kept hb)
          replace LX := Lib.hid (LX.out.kept hb)
          replace LY := Lib.hid (LY.out.kept hb)
          replace HW := Lib.hid (HW.out.trans (hb.mono HW.out.size))
          replace hb1 := Nat.lt_of_lt_of_le hb1 hb.size
          clear hb hHeld
          refine hK.out _ _ ⟨C1.out, K1.out, J1.out⟩ (fun hHeld => ?_)
          clear hK K
          try simp only [Act.put, List.setIfInBounds_toArray, List.set_cons_zero, List.set_cons_succ]
          refine wpAnyH_take (i := 6) (oi := { dst := some 20, op := Op.move (Operand.tmp 19), type := 4, pos := "ref.go:89", after := #[{ on := 5, ground := Ground.data }, { on := 5, ground := Ground.chain }], guard := none }) (v := .bool true) rfl (by kernel_rfl) (by kernel_rfl) (by kernel_rfl) (fun _ _ _ h => h) (Or.inl ⟨by rfl, fun w' hS' => by go_simp⟩) (by assumption) ?_
          simp only [Act.put, List.setIfInBounds_toArray, List.set_cons_zero, List.set_cons_succ]
          refine wpAnyH_take (i := 7) (oi := { dst := some 21, op := Op.move (Operand.tmp 0), type := 22, pos := "ref.go:89", after := #[{ on := 6, ground := Ground.guard }], guard := some (6, true) }) (v := .slice (some ⟨b, o, none⟩) n c) rfl (by kernel_rfl) (by kernel_rfl) (by kernel_rfl) (fun _ _ _ h => h) (Or.inl ⟨by rfl, fun w' hS' => by go_simp⟩) (by assumption) ?_
          simp only [Act.put, List.setIfInBounds_toArray, List.set_cons_zero, List.set_cons_succ]
          refine wpAnyH_take (i := 8) (oi := { dst := some 22, op := Op.move (Operand.tmp 7), type := 3, pos := "ref.go:89", after := #[{ on := 6, ground := Ground.guard }], guard := some (6, true) }) (v := .int .i64 (k : Int)) rfl (by kernel_rfl) (by kernel_rfl) (by kernel_rfl) (fun _ _ _ h => h) (Or.inl ⟨by rfl, fun w' hS' => by go_simp⟩) (by assumption) ?_
          simp only [Act.put, List.setIfInBounds_toArray, List.set_cons_zero, List.set_cons_succ]
          refine wpAnyH_take (i := 9) (oi := { dst := some 23, op := Op.indexAddr 22 (Operand.tmp 21) (Operand.tmp 22), type := 0, pos := "ref.go:89", after := #[{ on := 7, ground := Ground.data }, { on := 8, ground := Ground.data }, { on := 6, ground := Ground.guard }], guard := some (6, true) }) (v := .pointer (some ⟨b, o + k * 12, none⟩)) rfl (by kernel_rfl) (by kernel_rfl) (by kernel_rfl) (fun _ _ _ h => h) (Or.inl ⟨by rfl, fun w' hS' => by go_simp⟩) (by assumption) ?_
          simp only [Act.put, List.setIfInBounds_toArray, List.set_cons_zero, List.set_cons_succ]
          refine wpAnyH_take (i := 10) (oi := { dst := some 24, op := Op.fieldAddr 37 (Operand.tmp 23) 1, type := 0, pos := "ref.go:89", after := #[{ on := 9, ground := Ground.data }, { on := 6, ground := Ground.guard }], guard := some (6, true) }) (v := .pointer (some ⟨b, o + k * 12 + 6, none⟩)) rfl (by kernel_rfl) (by kernel_rfl) (by kernel_rfl) (fun _ _ _ h => h) (Or.inl ⟨by rfl, fun w' hS' => by go_simp⟩) (by assumption) ?_
          simp only [Act.put, List.setIfInBounds_toArray, List.set_cons_zero, List.set_cons_succ]
          refine wpAnyH_take (i := 11) (oi := { dst := some 25, op := Op.load 35 (Operand.tmp 24), type := 35, pos := "ref.go:89", after := #[{ on := 10, ground := Ground.data }, { on := 6, ground := Ground.guard }], guard := some (6, true) }) (v := .agg #[.int .i64 s.hi.kind, .int .u64 (s.hi.v.a : Int), .int .u64 (s.hi.v.b : Int), .int .u64 (s.hi.v.c : Int), .slice s.hi.A s.hi.v.pre.length s.hi.c, .slice s.hi.B s.hi.v.build.length s.hi.d]) rfl (by kernel_rfl) (by kernel_rfl) (by kernel_rfl) (fun _ _ _ h => h) (Or.inl ⟨by rfl, fun w' hS' => by obtain ⟨q0, q1, q2, q3, q4, q5, q6, q7, q8, q9, q10, q11⟩ := hS'.1.cells; go_simp⟩) (by assumption) ?_
          simp only [Act.put, List.setIfInBounds_toArray, List.set_cons_zero, List.set_cons_succ]
          refine wpAnyH_ready (rs := [12]) (by kernel_rfl) (by simp) ?_
          refine AllReadyH.cons (o := { dst := some 26, op := Op.call { callee := Callee.value (Operand.func 14), args := #[Operand.tmp 25], argTypes := #[35] }, type := 4, pos := "ref.go:89", after := #[{ on := 11, ground := Ground.data }, { on := 6, ground := Ground.chain }, { on := 6, ground := Ground.guard }], guard := some (6, true) }) rfl (fun K hK => ?_) AllReadyH.nil
          go_simp
          refine (refRight_any s.hi _ LS.out.hi).mono ?_
          rintro e wq2 ⟨he, hb⟩
          rw [G2.out] at he
          subst he
          replace C1 := Lib.hid (C1.out.kept hb hb1)
          replace K1 := Lib.hid (K1.out.kept hb K1.out.1)
          replace J1 := Lib.hid (J1.out.kept hb J1.out.1)
          replace LS := Lib.hid (LS.out.kept hb)
          replace LX := Lib.hid (LX.out.kept hb)
          replace LY := Lib.hid (LY.out.kept hb)
          replace HW := Lib.hid (HW.out.trans (hb.mono HW.out.size))
          replace hb1 := Nat.lt_of_lt_of_le hb1 hb.size
          clear hb hHeld
          refine hK.out _ _ ⟨C1.out, K1.out, J1.out⟩ (fun hHeld => ?_)
          clear hK K
          try simp only [Act.put, List.setIfInBounds_toArray, List.set_cons_zero, List.set_cons_succ]
          refine wpAnyH_take (i := 13) (oi := { dst := some 27, op := Op.pick (Operand.tmp 20) (Operand.tmp 26) (Operand.const (Value.bool false)), type := 4, pos := "ref.go:89", after := #[{ on := 6, ground := Ground.data }, { on := 12, ground := Ground.data }], guard := none }) (v := .bool false) rfl (by kernel_rfl) (by kernel_rfl) (by kernel_rfl) (fun _ _ _ h => h) (Or.inl ⟨by rfl, fun w' hS' => by go_simp⟩) (by assumption) ?_
          simp only [Act.put, List.setIfInBounds_toArray, List.set_cons_zero, List.set_cons_succ]
          refine wpAnyH_take (i := 14) (oi := { dst := some 28, op := Op.move (Operand.tmp 27), type := 4, pos := "ref.go:89", after := #[{ on := 13, ground := Ground.data }, { on := 12, ground := Ground.chain }], guard := none }) (v := .bool false) rfl (by kernel_rfl) (by kernel_rfl) (by kernel_rfl) (fun _ _ _ h => h) (Or.inl ⟨by rfl, fun w' hS' => by go_simp⟩) (by assumption) ?_
          simp only [Act.put, List.setIfInBounds_toArray, List.set_cons_zero, List.set_cons_succ]
          refine wpAnyH_take (i := 15) (oi := { dst := some 29, op := Op.move (Operand.tmp 0), type := 22, pos := "ref.go:89", after := #[{ on := 14, ground := Ground.guard }], guard := some (14, true) }) (v := undef) rfl (by kernel_rfl) (by kernel_rfl) (by kernel_rfl) (fun _ _ _ h => h) (Or.inr ⟨by rfl, rfl⟩) (by assumption) ?_
          simp only [Act.put, List.setIfInBounds_toArray, List.set_cons_zero, List.set_cons_succ]
          refine wpAnyH_take (i := 16) (oi := { dst := some 30, op := Op.move (Operand.tmp 7), type := 3, pos := "ref.go:89", after := #[{ on := 14, ground := Ground.guard }], guard := some (14, true) }) (v := undef) rfl (by kernel_rfl) (by kernel_rfl) (by kernel_rfl) (fun _ _ _ h => h) (Or.inr ⟨by rfl, rfl⟩) (by assumption) ?_
          simp only [Act.put, List.setIfInBounds_toArray, List.set_cons_zero, List.set_cons_succ]
          refine wpAnyH_take (i := 17) (oi := { dst := some 31, op := Op.indexAddr 22 (Operand.tmp 29) (Operand.tmp 30), type := 0, pos := "ref.go:89", after := #[{ on := 15, ground := Ground.data }, { on := 16, ground := Ground.data }, { on := 14, ground := Ground.guard }], guard := some (14, true) }) (v := undef) rfl (by kernel_rfl) (by kernel_rfl) (by kernel_rfl) (fun _ _ _ h => h) (Or.inr ⟨by rfl, rfl⟩) (by assumption) ?_
          simp only [Act.put, List.setIfInBounds_toArray, List.set_cons_zero, List.set_cons_succ]
          refine wpAnyH_take (i := 18) (oi := { dst := some 32, op := Op.fieldAddr 37 (Operand.tmp 31) 0, type := 0, pos := "ref.go:89", after := #[{ on := 17, ground := Ground.data }, { on := 14, ground := Ground.guard }], guard := some (14, true) }) (v := undef) rfl (by kernel_rfl) (by kernel_rfl) (by kernel_rfl) (fun _ _ _ h => h) (Or.inr ⟨by rfl, rfl⟩) (by assumption) ?_
          simp only [Act.put, List.setIfInBounds_toArray, List.set_cons_zero, List.set_cons_succ]
          refine wpAnyH_take (i := 19) (oi := { dst := some 33, op := Op.load 35 (Operand.tmp 32), type := 35, pos := "ref.go:89", after := #[{ on := 18, ground := Ground.data }, { on := 14, ground := Ground.guard }], guard := some (14, true) }) (v := undef) rfl (by kernel_rfl) (by kernel_rfl) (by kernel_rfl) (fun _ _ _ h => h) (Or.inr ⟨by rfl, rfl⟩) (by assumption) ?_
          simp only [Act.put, List.setIfInBounds_toArray, List.set_cons_zero, List.set_cons_succ]
          refine wpAnyH_take (i := 20) (oi := { dst := some 34, op := Op.load 35 (Operand.tmp 4), type := 35, pos := "ref.go:89", after := #[{ on := 14, ground := Ground.guard }], guard := some (14, true) }) (v := undef) rfl (by kernel_rfl) (by kernel_rfl) (by kernel_rfl) (fun _ _ _ h => h) (Or.inr ⟨by rfl, rfl⟩) (by assumption) ?_
          simp only [Act.put, List.setIfInBounds_toArray, List.set_cons_zero, List.set_cons_succ]
          refine wpAnyH_take (i := 21) (oi := { dst := some 35, op := Op.call { callee := Callee.value (Operand.func 19), args := #[Operand.tmp 33, Operand.tmp 34], argTypes := #[35, 35] }, type := 3, pos := "ref.go:89", after := #[{ on := 19, ground := Ground.data }, { on := 20, ground := Ground.data }, { on := 14, ground := Ground.chain }, { on := 14, ground := Ground.guard }], guard := some (14, true) }) (v := undef) rfl (by kernel_rfl) (by kernel_rfl) (by kernel_rfl) (fun _ _ _ h => h) (Or.inr ⟨by rfl, rfl⟩) (by assumption) ?_
          simp only [Act.put, List.setIfInBounds_toArray, List.set_cons_zero, List.set_cons_succ]
          refine wpAnyH_take (i := 22) (oi := { dst := some 36, op := Op.binOp BinOp.leq 3 (Operand.tmp 35) (Operand.const (Value.int IntKind.i64 0)) 3, type := 4, pos := "ref.go:89", after := #[{ on := 21, ground := Ground.data }, { on := 14, ground := Ground.guard }], guard := some (14, true) }) (v := undef) rfl (by kernel_rfl) (by kernel_rfl) (by kernel_rfl) (fun _ _ _ h => h) (Or.inr ⟨by rfl, rfl⟩) (by assumption) ?_
          simp only [Act.put, List.setIfInBounds_toArray, List.set_cons_zero, List.set_cons_succ]
          refine wpAnyH_take (i := 23) (oi := { dst := some 37, op := Op.pick (Operand.tmp 28) (Operand.tmp 36) (Operand.const (Value.bool false)), type := 4, pos := "ref.go:89", after := #[{ on := 14, ground := Ground.data }, { on := 22, ground := Ground.data }], guard := none }) (v := .bool false) rfl (by kernel_rfl) (by kernel_rfl) (by kernel_rfl) (fun _ _ _ h => h) (Or.inl ⟨by rfl, fun w' hS' => by go_simp⟩) (by assumption) ?_
          simp only [Act.put, List.setIfInBounds_toArray, List.set_cons_zero, List.set_cons_succ]
          refine wpAnyH_take (i := 24) (oi := { dst := some 38, op := Op.move (Operand.tmp 37), type := 4, pos := "ref.go:89", after := #[{ on := 23, ground := Ground.data }, { on := 21, ground := Ground.chain }], guard := none }) (v := .bool false) rfl (by kernel_rfl) (by kernel_rfl) (by kernel_rfl) (fun _ _ _ h => h) (Or.inl ⟨by rfl, fun w' hS' => by go_simp⟩) (by assumption) ?_
          simp only [Act.put, List.setIfInBounds_toArray, List.set_cons_zero, List.set_cons_succ]
          refine wpAnyH_take (i := 25) (oi := { dst := some 39, op := Op.move (Operand.tmp 0), type := 22, pos := "ref.go:89", after := #[{ on := 24, ground := Ground.guard }], guard := some (24, true) }) (v := undef) rfl (by kernel_rfl) (by kernel_rfl) (by kernel_rfl) (fun _ _ _ h => h) (Or.inr ⟨by rfl, rfl⟩) (by assumption) ?_
          simp only [Act.put, List.setIfInBounds_toArray, List.set_cons_zero, List.set_cons_succ]
          refine wpAnyH_take (i := 26) (oi := { dst := some 40, op := Op.move (Operand.tmp 7), type := 3, pos := "ref.go:89", after := #[{ on := 24, ground := Ground.guard }], guard := some (24, true) }) (v := undef) rfl (by kernel_rfl) (by kernel_rfl) (by kernel_rfl) (fun _ _ _ h => h) (Or.inr ⟨by rfl, rfl⟩) (by assumption) ?_
          simp only [Act.put, List.setIfInBounds_toArray, List.set_cons_zero, List.set_cons_succ]
          refine wpAnyH_take (i := 27) (oi := { dst := some 41, op := Op.indexAddr 22 (Operand.tmp 39) (Operand.tmp 40), type := 0, pos := "ref.go:89", after := #[{ on := 25, ground := Ground.data }, { on := 26, ground := Ground.data }, { on := 24, ground := Ground.guard }], guard := some (24, true) }) (v := undef) rfl (by kernel_rfl) (by kernel_rfl) (by kernel_rfl) (fun _ _ _ h => h) (Or.inr ⟨by rfl, rfl⟩) (by assumption) ?_
          simp only [Act.put, List.setIfInBounds_toArray, List.set_cons_zero, List.set_cons_succ]
          refine wpAnyH_take (i := 28) (oi := { dst := some 42, op := Op.fieldAddr 37 (Operand.tmp 41) 1, type := 0, pos := "ref.go:89", after := #[{ on := 27, ground := Ground.data }, { on := 24, ground := Ground.guard }], guard := some (24, true) }) (v := undef) rfl (by kernel_rfl) (by kernel_rfl) (by kernel_rfl) (fun _ _ _ h => h) (Or.inr ⟨by rfl, rfl⟩) (by assumption) ?_
          simp only [Act.put, List.setIfInBounds_toArray, List.set_cons_zero, List.set_cons_succ]
          refine wpAnyH_take (i := 29) (oi := { dst := some 43, op := Op.load 35 (Operand.tmp 42), type := 35, pos := "ref.go:89", after := #[{ on := 28, ground := Ground.data }, { on := 24, ground := Ground.guard }], guard := some (24, true) }) (v := undef) rfl (by kernel_rfl) (by kernel_rfl) (by kernel_rfl) (fun _ _ _ h => h) (Or.inr ⟨by rfl, rfl⟩) (by assumption) ?_
          simp only [Act.put, List.setIfInBounds_toArray, List.set_cons_zero, List.set_cons_succ]
          refine wpAnyH_take (i := 30) (oi := { dst := some 44, op := Op.load 35 (Operand.tmp 5), type := 35, pos := "ref.go:89", after := #[{ on := 24, ground := Ground.guard }], guard := some (24, true) }) (v := undef) rfl (by kernel_rfl) (by kernel_rfl) (by kernel_rfl) (fun _ _ _ h => h) (Or.inr ⟨by rfl, rfl⟩) (by assumption) ?_
          simp only [Act.put, List.setIfInBounds_toArray, List.set_cons_zero, List.set_cons_succ]
          refine wpAnyH_take (i := 31) (oi := { dst := some 45, op := Op.call { callee := Callee.value (Operand.func 19), args := #[Operand.tmp 43, Operand.tmp 44], argTypes := #[35, 35] }, type := 3, pos := "ref.go:89", after := #[{ on := 29, ground := Ground.data }, { on := 30, ground := Ground.data }, { on := 24, ground := Ground.chain }, { on := 24, ground := Ground.guard }], guard := some (24, true) }) (v := undef) rfl (by kernel_rfl) (by kernel_rfl) (by kernel_rfl) (fun _ _ _ h => h) (Or.inr ⟨by rfl, rfl⟩) (by assumption) ?_
          simp only [Act.put, List.setIfInBounds_toArray, List.set_cons_zero, List.set_cons_succ]
          refine wpAnyH_take (i := 32) (oi := { dst := some 46, op := Op.binOp BinOp.geq 3 (Operand.tmp 45) (Operand.const (Value.int IntKind.i64 0)) 3, type := 4, pos := "ref.go:89", after := #[{ on := 31, ground := Ground.data }, { on := 24, ground := Ground.guard }], guard := some (24, true) }) (v := undef) rfl (by kernel_rfl) (by kernel_rfl) (by kernel_rfl) (fun _ _ _ h => h) (Or.inr ⟨by rfl, rfl⟩) (by assumption) ?_
          simp only [Act.put, List.setIfInBounds_toArray, List.set_cons_zero, List.set_cons_succ]
          refine wpAnyH_take (i := 33) (oi := { dst := some 47, op := Op.pick (Operand.tmp 38) (Operand.tmp 46) (Operand.const (Value.bool false)), type := 4, pos := "ref.go:89", after := #[{ on := 24, ground := Ground.data }, { on := 32, ground := Ground.data }], guard := none }) (v := .bool false) rfl (by kernel_rfl) (by kernel_rfl) (by kernel_rfl) (fun _ _ _ h => h) (Or.inl ⟨by rfl, fun w' hS' => by go_simp⟩) (by assumption) ?_
          simp only [Act.put, List.setIfInBounds_toArray, List.set_cons_zero, List.set_cons_succ]
          refine wpAnyH_done (by kernel_rfl) ?_ _
          go_wp2
          go_meet
          exact ⟨by rw [HF.out], HW.out⟩
        by_cases hd : cmpC s.lo.cut x.cut ≤ 0
        · have G1 := Lib.hid g1
          have G2 := Lib.hid g2
          have HF : Hid (coverOne x.cut y.cut s.sp = decide (0 ≤ cmpC s.hi.cut y.cut)) := by unfold Hid coverOne; rw [show right s.sp.lo = true from g1, show right s.sp.hi = true from g2, show decide (cmpC s.sp.lo x.cut ≤ 0) = true from decide_eq_true hd]; rfl
          have hd1 : decide (cmpC s.lo.cut x.cut ≤ 0) = true := decide_eq_true hd
          clear g1 g2 hd
          replace C1 : Hid (SpAt wr.drew b (o + k * 12) s) := C1.out
          replace K1 : Hid (At6B wr.drew w.heap.size (.int .i64 x.kind) (.int .u64 (x.v.a : Int)) (.int .u64 (x.v.b : Int)) (.int .u64 (x.v.c : Int)) (.slice x.A x.v.pre.length x.c) (.slice x.B x.v.build.length x.d)) := K1.out
          replace J1 : Hid (At6B wr.drew (w.heap.size + 1) (.int .i64 y.kind) (.int .u64 (y.v.a : Int)) (.int .u64 (y.v.b : Int)) (.int .u64 (y.v.c : Int)) (.slice y.A y.v.pre.length y.c) (.slice y.B y.v.build.length y.d)) := J1.out
          replace LS : Hid (LiesS wr.drew s) := LS.out.kept (Below.refl _ _).drew
          replace LX : Hid (Lies wr.drew x) := LX.out.kept (Below.refl _ _).drew
          replace LY : Hid (Lies wr.drew y) := LY.out.kept (Below.refl _ _).drew
          replace HW := Lib.hid HW.out.drew
          replace hb1 : b < wr.drew.heap.size := hb1
          refine wp_region_held_drew (S := fun w' => SpAt w' b (o + k * 12) s ∧ At6B w' w.heap.size (.int .i64 x.kind) (.int .u64 (x.v.a : Int)) (.int .u64 (x.v.b : Int)) (.int .u64 (x.v.c : Int)) (.slice x.A x.v.pre.length x.c) (.slice x.B x.v.build.length x.d) ∧ At6B w' (w.heap.size + 1) (.int .i64 y.kind) (.int .u64 (y.v.a : Int)) (.int .u64 (y.v.b : Int)) (.int .u64 (y.v.c : Int)) (.slice y.A y.v.pre.length y.c) (.slice y.B y.v.build.length y.d)) (by kernel_rfl) ⟨C1.out, K1.out, J1.out⟩ (fun hHeld => ?_)
          refine wpAnyH_take (i := 0) (oi := { dst := some 14, op := Op.move (Operand.tmp 0), type := 22, pos := "ref.go:89", after := #[], guard := none }) (v := .slice (some ⟨b, o, none⟩) n c) rfl (by kernel_rfl) (by kernel_rfl) (by kernel_rfl) (fun _ _ _ h => h) (Or.inl ⟨by rfl, fun w' hS' => by go_simp⟩) (by assumption) ?_
          simp only [Act.put, List.setIfInBounds_toArray, List.set_cons_zero, List.set_cons_succ]
          refine wpAnyH_take (i := 1) (oi := { dst := some 15, op := Op.move (Operand.tmp 7), type := 3, pos := "ref.go:89", after := #[], guard := none }) (v := .int .i64 (k : Int)) rfl (by kernel_rfl) (by kernel_rfl) (by kernel_rfl) (fun _ _ _ h => h) (Or.inl ⟨by rfl, fun w' hS' => by go_simp⟩) (by assumption) ?_
          simp only [Act.put, List.setIfInBounds_toArray, List.set_cons_zero, List.set_cons_succ]
          refine wpAnyH_take (i := 2) (oi := { dst := some 16, op := Op.indexAddr 22 (Operand.tmp 14) (Operand.tmp 15), type := 0, pos := "ref.go:89", after := #[{ on := 0, ground := Ground.data }, { on := 1, ground := Ground.data }], guard := none }) (v := .pointer (some ⟨b, o + k * 12, none⟩)) rfl (by kernel_rfl) (by kernel_rfl) (by kernel_rfl) (fun _ _ _ h => h) (Or.inl ⟨by rfl, fun w' hS' => by go_simp⟩) (by assumption) ?_
          simp only [Act.put, List.setIfInBounds_toArray, List.set_cons_zero, List.set_cons_succ]
          refine wpAnyH_take (i := 3) (oi := { dst := some 17, op := Op.fieldAddr 37 (Operand.tmp 16) 0, type := 0, pos := "ref.go:89", after := #[{ on := 2, ground := Ground.data }], guard := none }) (v := .pointer (some ⟨b, o + k * 12, none⟩)) rfl (by kernel_rfl) (by kernel_rfl) (by kernel_rfl) (fun _ _ _ h => h) (Or.inl ⟨by rfl, fun w' hS' => by go_simp⟩) (by assumption) ?_
          simp only [Act.put, List.setIfInBounds_toArray, List.set_cons_zero, List.set_cons_succ]
          refine wpAnyH_take (i := 4) (oi := { dst := some 18, op := Op.load 35 (Operand.tmp 17), type := 35, pos := "ref.go:89", after := #[{ on := 3, ground := Ground.data }], guard := none }) (v := .agg #[.int .i64 s.lo.kind, .int .u64 (s.lo.v.a : Int), .int .u64 (s.lo.v.b : Int), .int .u64 (s.lo.v.c : Int), .slice s.lo.A s.lo.v.pre.length s.lo.c, .slice s.lo.B s.lo.v.build.length s.lo.d]) rfl (by kernel_rfl) (by kernel_rfl) (by kernel_rfl) (fun _ _ _ h => h) (Or.inl ⟨by rfl, fun w' hS' => by obtain ⟨q0, q1, q2, q3, q4, q5, q6, q7, q8, q9, q10, q11⟩ := hS'.1.cells; go_simp⟩) (by assumption) ?_
          simp only [Act.put, List.setIfInBounds_toArray, List.set_cons_zero, List.set_cons_succ]
          refine wpAnyH_ready (rs := [5]) (by kernel_rfl) (by simp) ?_
          refine AllReadyH.cons (o := { dst := some 19, op := Op.call { callee := Callee.value (Operand.func 14), args := #[Operand.tmp 18], argTypes := #[35] }, type := 4, pos := "ref.go:89", after := #[{ on := 4, ground := Ground.data }], guard := none }) rfl (fun K hK => ?_) AllReadyH.nil
          go_simp
          refine (refRight_any s.lo _ LS.out.lo).mono ?_
          rintro e wq1 ⟨he, hb⟩
          rw [G1.out] at he
          subst he
          replace C1 := Lib.hid (C1.out.kept hb hb1)
          replace K1 := Lib.hid (K1.out.kept hb K1.out.1)
          replace J1 := Lib.hid (J1.out.kept hb J1.out.1)
          replace LS := Lib.hid (LS.out.kept hb)
          replace LX := Lib.hid (LX.out.kept hb)
          replace LY := Lib.hid (LY.out.kept hb)
          replace HW := Lib.hid (HW.out.trans (hb.mono HW.out.size))
          replace hb1 := Nat.lt_of_lt_of_le hb1 hb.size
          clear hb hHeld
          refine hK.out _ _ ⟨C1.out, K1.out, J1.out⟩ (fun hHeld => ?_)
          clear hK K
          try simp only [Act.put, List.setIfInBounds_toArray, List.set_cons_zero, List.set_cons_succ]
          refine wpAnyH_take (i := 6) (oi := { dst := some 20, op := Op.move (Operand.tmp 19), type := 4, pos := "ref.go:89", after := #[{ on := 5, ground := Ground.data }, { on := 5, ground := Ground.chain }], guard := none }) (v := .bool true) rfl (by kernel_rfl) (by kernel_rfl) (by kernel_rfl) (fun _ _ _ h => h) (Or.inl ⟨by rfl, fun w' hS' => by go_simp⟩) (by assumption) ?_
          simp only [Act.put, List.setIfInBounds_toArray, List.set_cons_zero, List.set_cons_succ]
          refine wpAnyH_take (i := 7) (oi := { dst := some 21, op := Op.move (Operand.tmp 0), type := 22, pos := "ref.go:89", after := #[{ on := 6, ground := Ground.guard }], guard := some (6, true) }) (v := .slice (some ⟨b, o, none⟩) n c) rfl (by kernel_rfl) (by kernel_rfl) (by kernel_rfl) (fun _ _ _ h => h) (Or.inl ⟨by rfl, fun w' hS' => by go_simp⟩) (by assumption) ?_
          simp only [Act.put, List.setIfInBounds_toArray, List.set_cons_zero, List.set_cons_succ]
          refine wpAnyH_take (i := 8) (oi := { dst := some 22, op := Op.move (Operand.tmp 7), type := 3, pos := "ref.go:89", after := #[{ on := 6, ground := Ground.guard }], guard := some (6, true) }) (v := .int .i64 (k : Int)) rfl (by kernel_rfl) (by kernel_rfl) (by kernel_rfl) (fun _ _ _ h => h) (Or.inl ⟨by rfl, fun w' hS' => by go_simp⟩) (by assumption) ?_
          simp only [Act.put, List.setIfInBounds_toArray, List.set_cons_zero, List.set_cons_succ]
          refine wpAnyH_take (i := 9) (oi := { dst := some 23, op := Op.indexAddr 22 (Operand.tmp 21) (Operand.tmp 22), type := 0, pos := "ref.go:89", after := #[{ on := 7, ground := Ground.data }, { on := 8, ground := Ground.data }, { on := 6, ground := Ground.guard }], guard := some (6, true) }) (v := .pointer (some ⟨b, o + k * 12, none⟩)) rfl (by kernel_rfl) (by kernel_rfl) (by kernel_rfl) (fun _ _ _ h => h) (Or.inl ⟨by rfl, fun w' hS' => by go_simp⟩) (by assumption) ?_
          simp only [Act.put, List.setIfInBounds_toArray, List.set_cons_zero, List.set_cons_succ]
          refine wpAnyH_take (i := 10) (oi := { dst := some 24, op := Op.fieldAddr 37 (Operand.tmp 23) 1, type := 0, pos := "ref.go:89", after := #[{ on := 9, ground := Ground.data }, { on := 6, ground := Ground.guard }], guard := some (6, true) }) (v := .pointer (some ⟨b, o + k * 12 + 6, none⟩)) rfl (by kernel_rfl) (by kernel_rfl) (by kernel_rfl) (fun _ _ _ h => h) (Or.inl ⟨by rfl, fun w' hS' => by go_simp⟩) (by assumption) ?_
          simp only [Act.put, List.setIfInBounds_toArray, List.set_cons_zero, List.set_cons_succ]
          refine wpAnyH_take (i := 11) (oi := { dst := some 25, op := Op.load 35 (Operand.tmp 24), type := 35, pos := "ref.go:89", after := #[{ on := 10, ground := Ground.data }, { on := 6, ground := Ground.guard }], guard := some (6, true) }) (v := .agg #[.int .i64 s.hi.kind, .int .u64 (s.hi.v.a : Int), .int .u64 (s.hi.v.b : Int), .int .u64 (s.hi.v.c : Int), .slice s.hi.A s.hi.v.pre.length s.hi.c, .slice s.hi.B s.hi.v.build.length s.hi.d]) rfl (by kernel_rfl) (by kernel_rfl) (by kernel_rfl) (fun _ _ _ h => h) (Or.inl ⟨by rfl, fun w' hS' => by obtain ⟨q0, q1, q2, q3, q4, q5, q6, q7, q8, q9, q10, q11⟩ := hS'.1.cells; go_simp⟩) (by assumption) ?_
          simp only [Act.put, List.setIfInBounds_toArray, List.set_cons_zero, List.set_cons_succ]
          refine wpAnyH_ready (rs := [12]) (by kernel_rfl) (by simp) ?_
          refine AllReadyH.cons (o := { dst := some 26, op := Op.call { callee := Callee.value (Operand.func 14), args := #[Operand.tmp 25], argTypes := #[35] }, type := 4, pos := "ref.go:89", after := #[{ on := 11, ground := Ground.data }, { on := 6, ground := Ground.chain }, { on := 6, ground := Ground.guard }], guard := some (6, true) }) rfl (fun K hK => ?_) AllReadyH.nil
          go_simp
          refine (refRight_any s.hi _ LS.out.hi).mono ?_
          rintro e wq2 ⟨he, hb⟩
          rw [G2.out] at he
          subst he
          replace C1 := Lib.hid (C1.out.kept hb hb1)
          replace K1 := Lib.hid (K1.out.kept hb K1.out.1)
          replace J1 := Lib.hid (J1.out.kept hb J1.out.1)
          replace LS := Lib.hid (LS.out.kept hb)
          replace LX := Lib.hid (LX.out.kept hb)
          replace LY := Lib.hid (LY.out.kept hb)
          replace HW := Lib.hid (HW.out.trans (hb.mono HW.out.size))
          replace hb1 := Nat.lt_of_lt_of_le hb1 hb.size
          clear hb hHeld
          refine hK.out _ _ ⟨C1.out, K1.out, J1.out⟩ (fun hHeld => ?_)
          clear hK K
          try simp only [Act.put, List.setIfInBounds_toArray, List.set_cons_zero, List.set_cons_succ]
          refine wpAnyH_take (i := 13) (oi := { dst := some 27, op := Op.pick (Operand.tmp 20) (Operand.tmp 26) (Operand.const (Value.bool false)), type := 4, pos := "ref.go:89", after := #[{ on := 6, ground := Ground.data }, { on := 12, ground := Ground.data }], guard := none }) (v := .bool true) rfl (by kernel_rfl) (by kernel_rfl) (by kernel_rfl) (fun _ _ _ h => h) (Or.inl ⟨by rfl, fun w' hS' => by go_simp⟩) (by assumption) ?_
          simp only [Act.put, List.setIfInBounds_toArray, List.set_cons_zero, List.set_cons_succ]
          refine wpAnyH_take (i := 14) (oi := { dst := some 28, op := Op.move (Operand.tmp 27), type := 4, pos := "ref.go:89", after := #[{ on := 13, ground := Ground.data }, { on := 12, ground := Ground.chain }], guard := none }) (v := .bool true) rfl (by kernel_rfl) (by kernel_rfl) (by kernel_rfl) (fun _ _ _ h => h) (Or.inl ⟨by rfl, fun w' hS' => by go_simp⟩) (by assumption) ?_
          simp only [Act.put, List.setIfInBounds_toArray, List.set_cons_zero, List.set_cons_succ]
          refine wpAnyH_take (i := 15) (oi := { dst := some 29, op := Op.move (Operand.tmp 0), type := 22, pos := "ref.go:89", after := #[{ on := 14, ground := Ground.guard }], guard := some (14, true) }) (v := .slice (some ⟨b, o, none⟩) n c) rfl (by kernel_rfl) (by kernel_rfl) (by kernel_rfl) (fun _ _ _ h => h) (Or.inl ⟨by rfl, fun w' hS' => by go_simp⟩) (by assumption) ?_
          simp only [Act.put, List.setIfInBounds_toArray, List.set_cons_zero, List.set_cons_succ]
          refine wpAnyH_take (i := 16) (oi := { dst := some 30, op := Op.move (Operand.tmp 7), type := 3, pos := "ref.go:89", after := #[{ on := 14, ground := Ground.guard }], guard := some (14, true) }) (v := .int .i64 (k : Int)) rfl (by kernel_rfl) (by kernel_rfl) (by kernel_rfl) (fun _ _ _ h => h) (Or.inl ⟨by rfl, fun w' hS' => by go_simp⟩) (by assumption) ?_
          simp only [Act.put, List.setIfInBounds_toArray, List.set_cons_zero, List.set_cons_succ]
          refine wpAnyH_take (i := 17) (oi := { dst := some 31, op := Op.indexAddr 22 (Operand.tmp 29) (Operand.tmp 30), type := 0, pos := "ref.go:89", after := #[{ on := 15, ground := Ground.data }, { on := 16, ground := Ground.data }, { on := 14, ground := Ground.guard }], guard := some (14, true) }) (v := .pointer (some ⟨b, o + k * 12, none⟩)) rfl (by kernel_rfl) (by kernel_rfl) (by kernel_rfl) (fun _ _ _ h => h) (Or.inl ⟨by rfl, fun w' hS' => by go_simp⟩) (by assumption) ?_
          simp only [Act.put, List.setIfInBounds_toArray, List.set_cons_zero, List.set_cons_succ]
          refine wpAnyH_take (i := 18) (oi := { dst := some 32, op := Op.fieldAddr 37 (Operand.tmp 31) 0, type := 0, pos := "ref.go:89", after := #[{ on := 17, ground := Ground.data }, { on := 14, ground := Ground.guard }], guard := some (14, true) }) (v := .pointer (some ⟨b, o + k * 12, none⟩)) rfl (by kernel_rfl) (by kernel_rfl) (by kernel_rfl) (fun _ _ _ h => h) (Or.inl ⟨by rfl, fun w' hS' => by go_simp⟩) (by assumption) ?_
          simp only [Act.put, List.setIfInBounds_toArray, List.set_cons_zero, List.set_cons_succ]
          refine wpAnyH_take (i := 19) (oi := { dst := some 33, op := Op.load 35 (Operand.tmp 32), type := 35, pos := "ref.go:89", after := #[{ on := 18, ground := Ground.data }, { on := 14, ground := Ground.guard }], guard := some (14, true) }) (v := .agg #[.int .i64 s.lo.kind, .int .u64 (s.lo.v.a : Int), .int .u64 (s.lo.v.b : Int), .int .u64 (s.lo.v.c : Int), .slice s.lo.A s.lo.v.pre.length s.lo.c, .slice s.lo.B s.lo.v.build.length s.lo.d]) rfl (by kernel_rfl) (by kernel_rfl) (by kernel_rfl) (fun _ _ _ h => h) (Or.inl ⟨by rfl, fun w' hS' => by obtain ⟨q0, q1, q2, q3, q4, q5, q6, q7, q8, q9, q10, q11⟩ := hS'.1.cells; go_simp⟩) (by assumption) ?_
          simp only [Act.put, List.setIfInBounds_toArray, List.set_cons_zero, List.set_cons_succ]
          refine wpAnyH_take (i := 20) (oi := { dst := some 34, op := Op.load 35 (Operand.tmp 4), type := 35, pos := "ref.go:89", after := #[{ on := 14, ground := Ground.guard }], guard := some (14, true) }) (v := .agg #[.int .i64 x.kind, .int .u64 (x.v.a : Int), .int .u64 (x.v.b : Int), .int .u64 (x.v.c : Int), .slice x.A x.v.pre.length x.c, .slice x.B x.v.build.length x.d]) rfl (by kernel_rfl) (by kernel_rfl) (by kernel_rfl) (fun _ _ _ h => h) (Or.inl ⟨by rfl, fun w' hS' => by obtain ⟨_, ⟨_, _, q0, q1, q2, q3, q4, q5⟩, _⟩ := hS'; go_simp⟩) (by assumption) ?_
          simp only [Act.put, List.setIfInBounds_toArray, List.set_cons_zero, List.set_cons_succ]
          refine wpAnyH_ready (rs := [21]) (by kernel_rfl) (by simp) ?_
          refine AllReadyH.cons (o := { dst := some 35, op := Op.call { callee := Callee.value (Operand.func 19), args := #[Operand.tmp 33, Operand.tmp 34], argTypes := #[35, 35] }, type := 3, pos := "ref.go:89", after := #[{ on := 19, ground := Ground.data }, { on := 20, ground := Ground.data }, { on := 14, ground := Ground.chain }, { on := 14, ground := Ground.guard }], guard := some (14, true) }) rfl (fun K hK => ?_) AllReadyH.nil
          go_simp
          refine (refCompareC_any s.lo x _ LS.out.lo LX.out).mono ?_
          rintro e wq3 ⟨rfl, hb⟩
          generalize cmpC s.lo.cut x.cut = d1 at hd1 ⊢
          replace C1 := Lib.hid (C1.out.kept hb hb1)
          replace K1 := Lib.hid (K1.out.kept hb K1.out.1)
          replace J1 := Lib.hid (J1.out.kept hb J1.out.1)
          replace LS := Lib.hid (LS.out.kept hb)
          replace LX := Lib.hid (LX.out.kept hb)
          replace LY := Lib.hid (LY.out.kept hb)
          replace HW := Lib.hid (HW.out.trans (hb.mono HW.out.size))
          replace hb1 := Nat.lt_of_lt_of_le hb1 hb.size
          clear hb hHeld
          refine hK.out _ _ ⟨C1.out, K1.out, J1.out⟩ (fun hHeld => ?_)
          clear hK K
          try simp only [Act.put, List.setIfInBounds_toArray, List.set_cons_zero, List.set_cons_succ]
          refine wpAnyH_take (i := 22) (oi := { dst := some 36, op := Op.binOp BinOp.leq 3 (Operand.tmp 35) (Operand.const (Value.int IntKind.i64 0)) 3, type := 4, pos := "ref.go:89", after := #[{ on := 21, ground := Ground.data }, { on := 14, ground := Ground.guard }], guard := some (14, true) }) (v := .bool true) rfl (by kernel_rfl) (by kernel_rfl) (by kernel_rfl) (fun _ _ _ h => h) (Or.inl ⟨by rfl, fun w' hS' => by go_simp⟩) (by assumption) ?_
          simp only [Act.put, List.setIfInBounds_toArray, List.set_cons_zero, List.set_cons_succ]
          refine wpAnyH_take (i := 23) (oi := { dst := some 37, op := Op.pick (Operand.tmp 28) (Operand.tmp 36) (Operand.const (Value.bool false)), type := 4, pos := "ref.go:89", after := #[{ on := 14, ground := Ground.data }, { on := 22, ground := Ground.data }], guard := none }) (v := .bool true) rfl (by kernel_rfl) (by kernel_rfl) (by kernel_rfl) (fun _ _ _ h => h) (Or.inl ⟨by rfl, fun w' hS' => by go_simp⟩) (by assumption) ?_
          simp only [Act.put, List.setIfInBounds_toArray, List.set_cons_zero, List.set_cons_succ]
          refine wpAnyH_take (i := 24) (oi := { dst := some 38, op := Op.move (Operand.tmp 37), type := 4, pos := "ref.go:89", after := #[{ on := 23, ground := Ground.data }, { on := 21, ground := Ground.chain }], guard := none }) (v := .bool true) rfl (by kernel_rfl) (by kernel_rfl) (by kernel_rfl) (fun _ _ _ h => h) (Or.inl ⟨by rfl, fun w' hS' => by go_simp⟩) (by assumption) ?_
          simp only [Act.put, List.setIfInBounds_toArray, List.set_cons_zero, List.set_cons_succ]
          refine wpAnyH_take (i := 25) (oi := { dst := some 39, op := Op.move (Operand.tmp 0), type := 22, pos := "ref.go:89", after := #[{ on := 24, ground := Ground.guard }], guard := some (24, true) }) (v := .slice (some ⟨b, o, none⟩) n c) rfl (by kernel_rfl) (by kernel_rfl) (by kernel_rfl) (fun _ _ _ h => h) (Or.inl ⟨by rfl, fun w' hS' => by go_simp⟩) (by assumption) ?_
          simp only [Act.put, List.setIfInBounds_toArray, List.set_cons_zero, List.set_cons_succ]
          refine wpAnyH_take (i := 26) (oi := { dst := some 40, op := Op.move (Operand.tmp 7), type := 3, pos := "ref.go:89", after := #[{ on := 24, ground := Ground.guard }], guard := some (24, true) }) (v := .int .i64 (k : Int)) rfl (by kernel_rfl) (by kernel_rfl) (by kernel_rfl) (fun _ _ _ h => h) (Or.inl ⟨by rfl, fun w' hS' => by go_simp⟩) (by assumption) ?_
          simp only [Act.put, List.setIfInBounds_toArray, List.set_cons_zero, List.set_cons_succ]
          refine wpAnyH_take (i := 27) (oi := { dst := some 41, op := Op.indexAddr 22 (Operand.tmp 39) (Operand.tmp 40), type := 0, pos := "ref.go:89", after := #[{ on := 25, ground := Ground.data }, { on := 26, ground := Ground.data }, { on := 24, ground := Ground.guard }], guard := some (24, true) }) (v := .pointer (some ⟨b, o + k * 12, none⟩)) rfl (by kernel_rfl) (by kernel_rfl) (by kernel_rfl) (fun _ _ _ h => h) (Or.inl ⟨by rfl, fun w' hS' => by go_simp⟩) (by assumption) ?_
          simp only [Act.put, List.setIfInBounds_toArray, List.set_cons_zero, List.set_cons_succ]
          refine wpAnyH_take (i := 28) (oi := { dst := some 42, op := Op.fieldAddr 37 (Operand.tmp 41) 1, type := 0, pos := "ref.go:89", after := #[{ on := 27, ground := Ground.data }, { on := 24, ground := Ground.guard }], guard := some (24, true) }) (v := .pointer (some ⟨b, o + k * 12 + 6, none⟩)) rfl (by kernel_rfl) (by kernel_rfl) (by kernel_rfl) (fun _ _ _ h => h) (Or.inl ⟨by rfl, fun w' hS' => by go_simp⟩) (by assumption) ?_
          simp only [Act.put, List.setIfInBounds_toArray, List.set_cons_zero, List.set_cons_succ]
          refine wpAnyH_take (i := 29) (oi := { dst := some 43, op := Op.load 35 (Operand.tmp 42), type := 35, pos := "ref.go:89", after := #[{ on := 28, ground := Ground.data }, { on := 24, ground := Ground.guard }], guard := some (24, true) }) (v := .agg #[.int .i64 s.hi.kind, .int .u64 (s.hi.v.a : Int), .int .u64 (s.hi.v.b : Int), .int .u64 (s.hi.v.c : Int), .slice s.hi.A s.hi.v.pre.length s.hi.c, .slice s.hi.B s.hi.v.build.length s.hi.d]) rfl (by kernel_rfl) (by kernel_rfl) (by kernel_rfl) (fun _ _ _ h => h) (Or.inl ⟨by rfl, fun w' hS' => by obtain ⟨q0, q1, q2, q3, q4, q5, q6, q7, q8, q9, q10, q11⟩ := hS'.1.cells; go_simp⟩) (by assumption) ?_
          simp only [Act.put, List.setIfInBounds_toArray, List.set_cons_zero, List.set_cons_succ]
          refine wpAnyH_take (i := 30) (oi := { dst := some 44, op := Op.load 35 (Operand.tmp 5), type := 35, pos := "ref.go:89", after := #[{ on := 24, ground := Ground.guard }], guard := some (24, true) }) (v := .agg #[.int .i64 y.kind, .int .u64 (y.v.a : Int), .int .u64 (y.v.b : Int), .int .u64 (y.v.c : Int), .slice y.A y.v.pre.length y.c, .slice y.B y.v.build.length y.d]) rfl (by kernel_rfl) (by kernel_rfl) (by kernel_rfl) (fun _ _ _ h => h) (Or.inl ⟨by rfl, fun w' hS' => by obtain ⟨_, _, ⟨_, _, q0, q1, q2, q3, q4, q5⟩⟩ := hS'; go_simp⟩) (by assumption) ?_
          simp only [Act.put, List.setIfInBounds_toArray, List.set_cons_zero, List.set_cons_succ]
          refine wpAnyH_ready (rs := [31]) (by kernel_rfl) (by simp) ?_
          refine AllReadyH.cons (o := { dst := some 45, op := Op.call { callee := Callee.value (Operand.func 19), args := #[Operand.tmp 43, Operand.tmp 44], argTypes := #[35, 35] }, type := 3, pos := "ref.go:89", after := #[{ on := 29, ground := Ground.data }, { on := 30, ground := Ground.data }, { on := 24, ground := Ground.chain }, { on := 24, ground := Ground.guard }], guard := some (24, true) }) rfl (fun K hK => ?_) AllReadyH.nil
          go_simp
          refine (refCompareC_any s.hi y _ LS.out.hi LY.out).mono ?_
          rintro e wq4 ⟨rfl, hb⟩
          replace C1 := Lib.hid (C1.out.kept hb hb1)
          replace K1 := Lib.hid (K1.out.kept hb K1.out.1)
          replace J1 := Lib.hid (J1.out.kept hb J1.out.1)
          replace LS := Lib.hid (LS.out.kept hb)
          replace LX := Lib.hid (LX.out.kept hb)
          replace LY := Lib.hid (LY.out.kept hb)
          replace HW := Lib.hid (HW.out.trans (hb.mono HW.out.size))
          replace hb1 := Nat.lt_of_lt_of_le hb1 hb.size
          clear hb hHeld
          refine hK.out _ _ ⟨C1.out, K1.out, J1.out⟩ (fun hHeld => ?_)
          clear hK K
          try simp only [Act.put, List.setIfInBounds_toArray, List.set_cons_zero, List.set_cons_succ]
          refine wpAnyH_take (i := 32) (oi := { dst := some 46, op := Op.binOp BinOp.geq 3 (Operand.tmp 45) (Operand.const (Value.int IntKind.i64 0)) 3, type := 4, pos := "ref.go:89", after := #[{ on := 31, ground := Ground.data }, { on := 24, ground := Ground.guard }], guard := some (24, true) }) (v := .bool (decide (0 ≤ cmpC s.hi.cut y.cut))) rfl (by kernel_rfl) (by kernel_rfl) (by kernel_rfl) (fun _ _ _ h => h) (Or.inl ⟨by rfl, fun w' hS' => by go_simp⟩) (by assumption) ?_
          simp only [Act.put, List.setIfInBounds_toArray, List.set_cons_zero, List.set_cons_succ]
          refine wpAnyH_take (i := 33) (oi := { dst := some 47, op := Op.pick (Operand.tmp 38) (Operand.tmp 46) (Operand.const (Value.bool false)), type := 4, pos := "ref.go:89", after := #[{ on := 24, ground := Ground.data }, { on := 32, ground := Ground.data }], guard := none }) (v := .bool (decide (0 ≤ cmpC s.hi.cut y.cut))) rfl (by kernel_rfl) (by kernel_rfl) (by kernel_rfl) (fun _ _ _ h => h) (Or.inl ⟨by rfl, fun w' hS' => by go_simp⟩) (by assumption) ?_
          simp only [Act.put, List.setIfInBounds_toArray, List.set_cons_zero, List.set_cons_succ]
          refine wpAnyH_done (by kernel_rfl) ?_ _
          go_wp2
          go_meet
          exact ⟨by rw [HF.out], HW.out⟩
        · have G1 := Lib.hid g1
          have G2 := Lib.hid g2
          have HF : Hid (coverOne x.cut y.cut s.sp = false) := by unfold Hid coverOne; rw [show decide (cmpC s.sp.lo x.cut ≤ 0) = false from decide_eq_false hd, Bool.and_false]; rfl
          have hd1 : decide (cmpC s.lo.cut x.cut ≤ 0) = false := decide_eq_false hd
          clear g1 g2 hd
          replace C1 : Hid (SpAt wr.drew b (o + k * 12) s) := C1.out
          replace K1 : Hid (At6B wr.drew w.heap.size (.int .i64 x.kind) (.int .u64 (x.v.a : Int)) (.int .u64 (x.v.b : Int)) (.int .u64 (x.v.c : Int)) (.slice x.A x.v.pre.length x.c) (.slice x.B x.v.build.length x.d)) := K1.out
          replace J1 : Hid (At6B wr.drew (w.heap.size + 1) (.int .i64 y.kind) (.int .u64 (y.v.a : Int)) (.int .u64 (y.v.b : Int)) (.int .u64 (y.v.c : Int)) (.slice y.A y.v.pre.length y.c) (.slice y.B y.v.build.length y.d)) := J1.out
          replace LS : Hid (LiesS wr.drew s) := LS.out.kept (Below.refl _ _).drew
          replace LX : Hid (Lies wr.drew x) := LX.out.kept (Below.refl _ _).drew
          replace LY : Hid (Lies wr.drew y) := LY.out.kept (Below.refl _ _).drew
          replace HW := Lib.hid HW.out.drew
          replace hb1 : b < wr.drew.heap.size := hb1
          refine wp_region_held_drew (S := fun w' => SpAt w' b (o + k * 12) s ∧ At6B w' w.heap.size (.int .i64 x.kind) (.int .u64 (x.v.a : Int)) (.int .u64 (x.v.b : Int)) (.int .u64 (x.v.c : Int)) (.slice x.A x.v.pre.length x.c) (.slice x.B x.v.build.length x.d) ∧ At6B w' (w.heap.size + 1) (.int .i64 y.kind) (.int .u64 (y.v.a : Int)) (.int .u64 (y.v.b : Int)) (.int .u64 (y.v.c : Int)) (.slice y.A y.v.pre.length y.c) (.slice y.B y.v.build.length y.d)) (by kernel_rfl) ⟨C1.out, K1.out, J1.out⟩ (fun hHeld => ?_)
          refine wpAnyH_take (i := 0) (oi := { dst := some 14, op := Op.move (Operand.tmp 0), type := 22, pos := "ref.go:89", after := #[], guard := none }) (v := .slice (some ⟨b, o, none⟩) n c) rfl (by kernel_rfl) (by kernel_rfl) (by kernel_rfl) (fun _ _ _ h => h) (Or.inl ⟨by rfl, fun w' hS' => by go_simp⟩) (by assumption) ?_
          simp only [Act.put, List.setIfInBounds_toArray, List.set_cons_zero, List.set_cons_succ]
          refine wpAnyH_take (i := 1) (oi := { dst := some 15, op := Op.move (Operand.tmp 7), type := 3, pos := "ref.go:89", after := #[], guard := none }) (v := .int .i64 (k : Int)) rfl (by kernel_rfl) (by kernel_rfl) (by kernel_rfl) (fun _ _ _ h => h) (Or.inl ⟨by rfl, fun w' hS' => by go_simp⟩) (by assumption) ?_
          simp only [Act.put, List.setIfInBounds_toArray, List.set_cons_zero, List.set_cons_succ]
          refine wpAnyH_take (i := 2) (oi := { dst := some 16, op := Op.indexAddr 22 (Operand.tmp 14) (Operand.tmp 15), type := 0, pos := "ref.go:89", after := #[{ on := 0, ground := Ground.data }, { on := 1, ground := Ground.data }], guard := none }) (v := .pointer (some ⟨b, o + k * 12, none⟩)) rfl (by kernel_rfl) (by kernel_rfl) (by kernel_rfl) (fun _ _ _ h => h) (Or.inl ⟨by rfl, fun w' hS' => by go_simp⟩) (by assumption) ?_
          simp only [Act.put, List.setIfInBounds_toArray, List.set_cons_zero, List.set_cons_succ]
          refine wpAnyH_take (i := 3) (oi := { dst := some 17, op := Op.fieldAddr 37 (Operand.tmp 16) 0, type := 0, pos := "ref.go:89", after := #[{ on := 2, ground := Ground.data }], guard := none }) (v := .pointer (some ⟨b, o + k * 12, none⟩)) rfl (by kernel_rfl) (by kernel_rfl) (by kernel_rfl) (fun _ _ _ h => h) (Or.inl ⟨by rfl, fun w' hS' => by go_simp⟩) (by assumption) ?_
          simp only [Act.put, List.setIfInBounds_toArray, List.set_cons_zero, List.set_cons_succ]
          refine wpAnyH_take (i := 4) (oi := { dst := some 18, op := Op.load 35 (Operand.tmp 17), type := 35, pos := "ref.go:89", after := #[{ on := 3, ground := Ground.data }], guard := none }) (v := .agg #[.int .i64 s.lo.kind, .int .u64 (s.lo.v.a : Int), .int .u64 (s.lo.v.b : Int), .int .u64 (s.lo.v.c : Int), .slice s.lo.A s.lo.v.pre.length s.lo.c, .slice s.lo.B s.lo.v.build.length s.lo.d]) rfl (by kernel_rfl) (by kernel_rfl) (by kernel_rfl) (fun _ _ _ h => h) (Or.inl ⟨by rfl, fun w' hS' => by obtain ⟨q0, q1, q2, q3, q4, q5, q6, q7, q8, q9, q10, q11⟩ := hS'.1.cells; go_simp⟩) (by assumption) ?_
          simp only [Act.put, List.setIfInBounds_toArray, List.set_cons_zero, List.set_cons_succ]
          refine wpAnyH_ready (rs := [5]) (by kernel_rfl) (by simp) ?_
          refine AllReadyH.cons (o := { dst := some 19, op := Op.call { callee := Callee.value (Operand.func 14), args := #[Operand.tmp 18], argTypes := #[35] }, type := 4, pos := "ref.go:89", after := #[{ on := 4, ground := Ground.data }], guard := none }) rfl (fun K hK => ?_) AllReadyH.nil
          go_simp
          refine (refRight_any s.lo _ LS.out.lo).mono ?_
          rintro e wq1 ⟨he, hb⟩
          rw [G1.out] at he
          subst he
          replace C1 := Lib.hid (C1.out.kept hb hb1)
          replace K1 := Lib.hid (K1.out.kept hb K1.out.1)
          replace J1 := Lib.hid (J1.out.kept hb J1.out.1)
          replace LS := Lib.hid (LS.out.kept hb)
          replace LX := Lib.hid (LX.out.kept hb)
          replace LY := Lib.hid (LY.out.kept hb)
          replace HW := Lib.hid (HW.out.trans (hb.mono HW.out.size))
          replace hb1 := Nat.lt_of_lt_of_le hb1 hb.size
          clear hb hHeld
          refine hK.out _ _ ⟨C1.out, K1.out, J1.out⟩ (fun hHeld => ?_)
          clear hK K
          try simp only [Act.put, List.setIfInBounds_toArray, List.set_cons_zero, List.set_cons_succ]
          refine wpAnyH_take (i := 6) (oi := { dst := some 20, op := Op.move (Operand.tmp 19), type := 4, pos := "ref.go:89", after := #[{ on := 5, ground := Ground.data }, { on := 5, ground := Ground.chain }], guard := none }) (v := .bool true) rfl (by kernel_rfl) (by kernel_rfl) (by kernel_rfl) (fun _ _ _ h => h) (Or.inl ⟨by rfl, fun w' hS' => by go_simp⟩) (by assumption) ?_
          simp only [Act.put, List.setIfInBounds_toArray, List.set_cons_zero, List.set_cons_succ]
          refine wpAnyH_take (i := 7) (oi := { dst := some 21, op := Op.move (Operand.tmp 0), type := 22, pos := "ref.go:89", after := #[{ on := 6, ground := Ground.guard }], guard := some (6, true) }) (v := .slice (some ⟨b, o, none⟩) n c) rfl (by kernel_rfl) (by kernel_rfl) (by kernel_rfl) (fun _ _ _ h => h) (Or.inl ⟨by rfl, fun w' hS' => by go_simp⟩) (by assumption) ?_
          simp only [Act.put, List.setIfInBounds_toArray, List.set_cons_zero, List.set_cons_succ]
          refine wpAnyH_take (i := 8) (oi := { dst := some 22, op := Op.move (Operand.tmp 7), type := 3, pos := "ref.go:89", after := #[{ on := 6, ground := Ground.guard }], guard := some (6, true) }) (v := .int .i64 (k : Int)) rfl (by kernel_rfl) (by kernel_rfl) (by kernel_rfl) (fun _ _ _ h => h) (Or.inl ⟨by rfl, fun w' hS' => by go_simp⟩) (by assumption) ?_
          simp only [Act.put, List.setIfInBounds_toArray, List.set_cons_zero, List.set_cons_succ]
          refine wpAnyH_take (i := 9) (oi := { dst := some 23, op := Op.indexAddr 22 (Operand.tmp 21) (Operand.tmp 22), type := 0, pos := "ref.go:89", after := #[{ on := 7, ground := Ground.data }, { on := 8, ground := Ground.data }, { on := 6, ground := Ground.guard }], guard := some (6, true) }) (v := .pointer (some ⟨b, o + k * 12, none⟩)) rfl (by kernel_rfl) (by kernel_rfl) (by kernel_rfl) (fun _ _ _ h => h) (Or.inl ⟨by rfl, fun w' hS' => by go_simp⟩) (by assumption) ?_
          simp only [Act.put, List.setIfInBounds_toArray, List.set_cons_zero, List.set_cons_succ]
          refine wpAnyH_take (i := 10) (oi := { dst := some 24, op := Op.fieldAddr 37 (Operand.tmp 23) 1, type := 0, pos := "ref.go:89", after := #[{ on := 9, ground := Ground.data }, { on := 6, ground := Ground.guard }], guard := some (6, true) }) (v := .pointer (some ⟨b, o + k * 12 + 6, none⟩)) rfl (by kernel_rfl) (by kernel_rfl) (by kernel_rfl) (fun _ _ _ h => h) (Or.inl ⟨by rfl, fun w' hS' => by go_simp⟩) (by assumption) ?_
          simp only [Act.put, List.setIfInBounds_toArray, List.set_cons_zero, List.set_cons_succ]
          refine wpAnyH_take (i := 11) (oi := { dst := some 25, op := Op.load 35 (Operand.tmp 24), type := 35, pos := "ref.go:89", after := #[{ on := 10, ground := Ground.data }, { on := 6, ground := Ground.guard }], guard := some (6, true) }) (v := .agg #[.int .i64 s.hi.kind, .int .u64 (s.hi.v.a : Int), .int .u64 (s.hi.v.b : Int), .int .u64 (s.hi.v.c : Int), .slice s.hi.A s.hi.v.pre.length s.hi.c, .slice s.hi.B s.hi.v.build.length s.hi.d]) rfl (by kernel_rfl) (by kernel_rfl) (by kernel_rfl) (fun _ _ _ h => h) (Or.inl ⟨by rfl, fun w' hS' => by obtain ⟨q0, q1, q2, q3, q4, q5, q6, q7, q8, q9, q10, q11⟩ := hS'.1.cells; go_simp⟩) (by assumption) ?_
          simp only [Act.put, List.setIfInBounds_toArray, List.set_cons_zero, List.set_cons_succ]
          refine wpAnyH_ready (rs := [12]) (by kernel_rfl) (by simp) ?_
          refine AllReadyH.cons (o := { dst := some 26, op := Op.call { callee := Callee.value (Operand.func 14), args := #[Operand.tmp 25], argTypes := #[35] }, type := 4, pos := "ref.go:89", after := #[{ on := 11, ground := Ground.data }, { on := 6, ground := Ground.chain }, { on := 6, ground := Ground.guard }], guard := some (6, true) }) rfl (fun K hK => ?_) AllReadyH.nil
          go_simp
          refine (refRight_any s.hi _ LS.out.hi).mono ?_
          rintro e wq2 ⟨he, hb⟩
          rw [G2.out] at he
          subst he
          replace C1 := Lib.hid (C1.out.kept hb hb1)
          replace K1 := Lib.hid (K1.out.kept hb K1.out.1)
          replace J1 := Lib.hid (J1.out.kept hb J1.out.1)
          replace LS := Lib.hid (LS.out.kept hb)
          replace LX := Lib.hid (LX.out.kept hb)
          replace LY := Lib.hid (LY.out.kept hb)
          replace HW := Lib.hid (HW.out.trans (hb.mono HW.out.size))
          replace hb1 := Nat.lt_of_lt_of_le hb1 hb.size
          clear hb hHeld
          refine hK.out _ _ ⟨C1.out, K1.out, J1.out⟩ (fun hHeld => ?_)
          clear hK K
          try simp only [Act.put, List.setIfInBounds_toArray, List.set_cons_zero, List.set_cons_succ]
          refine wpAnyH_take (i := 13) (oi := { dst := some 27, op := Op.pick (Operand.tmp 20) (Operand.tmp 26) (Operand.const (Value.bool false)), type := 4, pos := "ref.go:89", after := #[{ on := 6, ground := Ground.data }, { on := 12, ground := Ground.data }], guard := none }) (v := .bool true) rfl (by kernel_rfl) (by kernel_rfl) (by kernel_rfl) (fun _ _ _ h => h) (Or.inl ⟨by rfl, fun w' hS' => by go_simp⟩) (by assumption) ?_
          simp only [Act.put, List.setIfInBounds_toArray, List.set_cons_zero, List.set_cons_succ]
          refine wpAnyH_take (i := 14) (oi := { dst := some 28, op := Op.move (Operand.tmp 27), type := 4, pos := "ref.go:89", after := #[{ on := 13, ground := Ground.data }, { on := 12, ground := Ground.chain }], guard := none }) (v := .bool true) rfl (by kernel_rfl) (by kernel_rfl) (by kernel_rfl) (fun _ _ _ h => h) (Or.inl ⟨by rfl, fun w' hS' => by go_simp⟩) (by assumption) ?_
          simp only [Act.put, List.setIfInBounds_toArray, List.set_cons_zero, List.set_cons_succ]
          refine wpAnyH_take (i := 15) (oi := { dst := some 29, op := Op.move (Operand.tmp 0), type := 22, pos := "ref.go:89", after := #[{ on := 14, ground := Ground.guard }], guard := some (14, true) }) (v := .slice (some ⟨b, o, none⟩) n c) rfl (by kernel_rfl) (by kernel_rfl) (by kernel_rfl) (fun _ _ _ h => h) (Or.inl ⟨by rfl, fun w' hS' => by go_simp⟩) (by assumption) ?_
          simp only [Act.put, List.setIfInBounds_toArray, List.set_cons_zero, List.set_cons_succ]
          refine wpAnyH_take (i := 16) (oi := { dst := some 30, op := Op.move (Operand.tmp 7), type := 3, pos := "ref.go:89", after := #[{ on := 14, ground := Ground.guard }], guard := some (14, true) }) (v := .int .i64 (k : Int)) rfl (by kernel_rfl) (by kernel_rfl) (by kernel_rfl) (fun _ _ _ h => h) (Or.inl ⟨by rfl, fun w' hS' => by go_simp⟩) (by assumption) ?_
          simp only [Act.put, List.setIfInBounds_toArray, List.set_cons_zero, List.set_cons_succ]
          refine wpAnyH_take (i := 17) (oi := { dst := some 31, op := Op.indexAddr 22 (Operand.tmp 29) (Operand.tmp 30), type := 0, pos := "ref.go:89", after := #[{ on := 15, ground := Ground.data }, { on := 16, ground := Ground.data }, { on := 14, ground := Ground.guard }], guard := some (14, true) }) (v := .pointer (some ⟨b, o + k * 12, none⟩)) rfl (by kernel_rfl) (by kernel_rfl) (by kernel_rfl) (fun _ _ _ h => h) (Or.inl ⟨by rfl, fun w' hS' => by go_simp⟩) (by assumption) ?_
          simp only [Act.put, List.setIfInBounds_toArray, List.set_cons_zero, List.set_cons_succ]
          refine wpAnyH_take (i := 18) (oi := { dst := some 32, op := Op.fieldAddr 37 (Operand.tmp 31) 0, type := 0, pos := "ref.go:89", after := #[{ on := 17, ground := Ground.data }, { on := 14, ground := Ground.guard }], guard := some (14, true) }) (v := .pointer (some ⟨b, o + k * 12, none⟩)) rfl (by kernel_rfl) (by kernel_rfl) (by kernel_rfl) (fun _ _ _ h => h) (Or.inl ⟨by rfl, fun w' hS' => by go_simp⟩) (by assumption) ?_
          simp only [Act.put, List.setIfInBounds_toArray, List.set_cons_zero, List.set_cons_succ]
          refine wpAnyH_take (i := 19) (oi := { dst := some 33, op := Op.load 35 (Operand.tmp 32), type := 35, pos := "ref.go:89", after := #[{ on := 18, ground := Ground.data }, { on := 14, ground := Ground.guard }], guard := some (14, true) }) (v := .agg #[.int .i64 s.lo.kind, .int .u64 (s.lo.v.a : Int), .int .u64 (s.lo.v.b : Int), .int .u64 (s.lo.v.c : Int), .slice s.lo.A s.lo.v.pre.length s.lo.c, .slice s.lo.B s.lo.v.build.length s.lo.d]) rfl (by kernel_rfl) (by kernel_rfl) (by kernel_rfl) (fun _ _ _ h => h) (Or.inl ⟨by rfl, fun w' hS' => by obtain ⟨q0, q1, q2, q3, q4, q5, q6, q7, q8, q9, q10, q11⟩ := hS'.1.cells; go_simp⟩) (by assumption) ?_
          simp only [Act.put, List.setIfInBounds_toArray, List.set_cons_zero, List.set_cons_succ]
          refine wpAnyH_take (i := 20) (oi := { dst := some 34, op := Op.load 35 (Operand.tmp 4), type := 35, pos := "ref.go:89", after := #[{ on := 14, ground := Ground.guard }], guard := some (14, true) }) (v := .agg #[.int .i64 x.kind, .int .u64 (x.v.a : Int), .int .u64 (x.v.b : Int), .int .u64 (x.v.c : Int), .slice x.A x.v.pre.length x.c, .slice x.B x.v.build.length x.d]) rfl (by kernel_rfl) (by kernel_rfl) (by kernel_rfl) (fun _ _ _ h => h) (Or.inl ⟨by rfl, fun w' hS' => by obtain ⟨_, ⟨_, _, q0, q1, q2, q3, q4, q5⟩, _⟩ := hS'; go_simp⟩) (by assumption) ?_
          simp only [Act.put, List.setIfInBounds_toArray, List.set_cons_zero, List.set_cons_succ]
          refine wpAnyH_ready (rs := [21]) (by kernel_rfl) (by simp) ?_
          refine AllReadyH.cons (o := { dst := some 35, op := Op.call { callee := Callee.value (Operand.func 19), args := #[Operand.tmp 33, Operand.tmp 34], argTypes := #[35, 35] }, type := 3, pos := "ref.go:89", after := #[{ on := 19, ground := Ground.data }, { on := 20, ground := Ground.data }, { on := 14, ground := Ground.chain }, { on := 14, ground := Ground.guard }], guard := some (14, true) }) rfl (fun K hK => ?_) AllReadyH.nil
          go_simp
          refine (refCompareC_any s.lo x _ LS.out.lo LX.out).mono ?_
          rintro e wq3 ⟨rfl, hb⟩
          generalize cmpC s.lo.cut x.cut = d1 at hd1 ⊢
          replace C1 := Lib.hid (C1.out.kept hb hb1)
          replace K1 := Lib.hid (K1.out.kept hb K1.out.1)
          replace J1 := Lib.hid (J1.out.kept hb J1.out.1)
          replace LS := Lib.hid (LS.out.kept hb)
          replace LX := Lib.hid (LX.out.kept hb)
          replace LY := Lib.hid (LY.out.kept hb)
          replace HW := Lib.hid (HW.out.trans (hb.mono HW.out.size))
          replace hb1 := Nat.lt_of_lt_of_le hb1 hb.size
          clear hb hHeld
          refine hK.out _ _ ⟨C1.out, K1.out, J1.out⟩ (fun hHeld => ?_)
          clear hK K
          try simp only [Act.put, List.setIfInBounds_toArray, List.set_cons_zero, List.set_cons_succ]
          refine wpAnyH_take (i := 22) (oi := { dst := some 36, op := Op.binOp BinOp.leq 3 (Operand.tmp 35) (Operand.const (Value.int IntKind.i64 0)) 3, type := 4, pos := "ref.go:89", after := #[{ on := 21, ground := Ground.data }, { on := 14, ground := Ground.guard }], guard := some (14, true) }) (v := .bool false) rfl (by kernel_rfl) (by kernel_rfl) (by kernel_rfl) (fun _ _ _ h => h) (Or.inl ⟨by rfl, fun w' hS' => by go_simp⟩) (by assumption) ?_
          simp only [Act.put, List.setIfInBounds_toArray, List.set_cons_zero, List.set_cons_succ]
          refine wpAnyH_take (i := 23) (oi := { dst := some 37, op := Op.pick (Operand.tmp 28) (Operand.tmp 36) (Operand.const (Value.bool false)), type := 4, pos := "ref.go:89", after := #[{ on := 14, ground := Ground.data }, { on := 22, ground := Ground.data }], guard := none }) (v := .bool false) rfl (by kernel_rfl) (by kernel_rfl) (by kernel_rfl) (fun _ _ _ h => h) (Or.inl ⟨by rfl, fun w' hS' => by go_simp⟩) (by assumption) ?_
          simp only [Act.put, List.setIfInBounds_toArray, List.set_cons_zero, List.set_cons_succ]
          refine wpAnyH_take (i := 24) (oi := { dst := some 38, op := Op.move (Operand.tmp 37), type := 4, pos := "ref.go:89", after := #[{ on := 23, ground := Ground.data }, { on := 21, ground := Ground.chain }], guard := none }) (v := .bool false) rfl (by kernel_rfl) (by kernel_rfl) (by kernel_rfl) (fun _ _ _ h => h) (Or.inl ⟨by rfl, fun w' hS' => by go_simp⟩) (by assumption) ?_
          simp only [Act.put, List.setIfInBounds_toArray, List.set_cons_zero, List.set_cons_succ]
          refine wpAnyH_take (i := 25) (oi := { dst := some 39, op := Op.move (Operand.tmp 0), type := 22, pos := "ref.go:89", after := #[{ on := 24, ground := Ground.guard }], guard := some (24, true) }) (v := undef) rfl (by kernel_rfl) (by kernel_rfl) (by kernel_rfl) (fun _ _ _ h => h) (Or.inr ⟨by rfl, rfl⟩) (by assumption) ?_
          simp only [Act.put, List.setIfInBounds_toArray, List.set_cons_zero, List.set_cons_succ]
          refine wpAnyH_take (i := 26) (oi := { dst := some 40, op := Op.move (Operand.tmp 7), type := 3, pos := "ref.go:89", after := #[{ on := 24, ground := Ground.guard }], guard := some (24, true) }) (v := undef) rfl (by kernel_rfl) (by kernel_rfl) (by kernel_rfl) (fun _ _ _ h => h) (Or.inr ⟨by rfl, rfl⟩) (by assumption) ?_
          simp only [Act.put, List.setIfInBounds_toArray, List.set_cons_zero, List.set_cons_succ]
          refine wpAnyH_take (i := 27) (oi := { dst := some 41, op := Op.indexAddr 22 (Operand.tmp 39) (Operand.tmp 40), type := 0, pos := "ref.go:89", after := #[{ on := 25, ground := Ground.data }, { on := 26, ground := Ground.data }, { on := 24, ground := Ground.guard }], guard := some (24, true) }) (v := undef) rfl (by kernel_rfl) (by kernel_rfl) (by kernel_rfl) (fun _ _ _ h => h) (Or.inr ⟨by rfl, rfl⟩) (by assumption) ?_
          simp only [Act.put, List.setIfInBounds_toArray, List.set_cons_zero, List.set_cons_succ]
          refine wpAnyH_take (i := 28) (oi := { dst := some 42, op := Op.fieldAddr 37 (Operand.tmp 41) 1, type := 0, pos := "ref.go:89", after := #[{ on := 27, ground := Ground.data }, { on := 24, ground := Ground.guard }], guard := some (24, true) }) (v := undef) rfl (by kernel_rfl) (by kernel_rfl) (by kernel_rfl) (fun _ _ _ h => h) (Or.inr ⟨by rfl, rfl⟩) (by assumption) ?_
          simp only [Act.put, List.setIfInBounds_toArray, List.set_cons_zero, List.set_cons_succ]
          refine wpAnyH_take (i := 29) (oi := { dst := some 43, op := Op.load 35 (Operand.tmp 42), type := 35, pos := "ref.go:89", after := #[{ on := 28, ground := Ground.data }, { on := 24, ground := Ground.guard }], guard := some (24, true) }) (v := undef) rfl (by kernel_rfl) (by kernel_rfl) (by kernel_rfl) (fun _ _ _ h => h) (Or.inr ⟨by rfl, rfl⟩) (by assumption) ?_
          simp only [Act.put, List.setIfInBounds_toArray, List.set_cons_zero, List.set_cons_succ]
          refine wpAnyH_take (i := 30) (oi := { dst := some 44, op := Op.load 35 (Operand.tmp 5), type := 35, pos := "ref.go:89", after := #[{ on := 24, ground := Ground.guard }], guard := some (24, true) }) (v := undef) rfl (by kernel_rfl) (by kernel_rfl) (by kernel_rfl) (fun _ _ _ h => h) (Or.inr ⟨by rfl, rfl⟩) (by assumption) ?_
          simp only [Act.put, List.setIfInBounds_toArray, List.set_cons_zero, List.set_cons_succ]
          refine wpAnyH_take (i := 31) (oi := { dst := some 45, op := Op.call { callee := Callee.value (Operand.func 19), args := #[Operand.tmp 43, Operand.tmp 44], argTypes := #[35, 35] }, type := 3, pos := "ref.go:89", after := #[{ on := 29, ground := Ground.data }, { on := 30, ground := Ground.data }, { on := 24, ground := Ground.chain }, { on := 24, ground := Ground.guard }], guard := some (24, true) }) (v := undef) rfl (by kernel_rfl) (by kernel_rfl) (by kernel_rfl) (fun _ _ _ h => h) (Or.inr ⟨by rfl, rfl⟩) (by assumption) ?_
          simp only [Act.put, List.setIfInBounds_toArray, List.set_cons_zero, List.set_cons_succ]
          refine wpAnyH_take (i := 32) (oi := { dst := some 46, op := Op.binOp BinOp.geq 3 (Operand.tmp 45) (Operand.const (Value.int IntKind.i64 0)) 3, type := 4, pos := "ref.go:89", after := #[{ on := 31, ground := Ground.data }, { on := 24, ground := Ground.guard }], guard := some (24, true) }) (v := undef) rfl (by kernel_rfl) (by kernel_rfl) (by kernel_rfl) (fun _ _ _ h => h) (Or.inr ⟨by rfl, rfl⟩) (by assumption) ?_
          simp only [Act.put, List.setIfInBounds_toArray, List.set_cons_zero, List.set_cons_succ]
          refine wpAnyH_take (i := 33) (oi := { dst := some 47, op := Op.pick (Operand.tmp 38) (Operand.tmp 46) (Operand.const (Value.bool false)), type := 4, pos := "ref.go:89", after := #[{ on := 24, ground := Ground.data }, { on := 32, ground := Ground.data }], guard := none }) (v := .bool false) rfl (by kernel_rfl) (by kernel_rfl) (by kernel_rfl) (fun _ _ _ h => h) (Or.inl ⟨by rfl, fun w' hS' => by go_simp⟩) (by assumption) ?_
          simp only [Act.put, List.setIfInBounds_toArray, List.set_cons_zero, List.set_cons_succ]
          refine wpAnyH_done (by kernel_rfl) ?_ _
          go_wp2
          go_meet
          exact ⟨by rw [HF.out], HW.out⟩
      case rest =>
        obtain ⟨rfl, hbx⟩ := hcut
        have HBX := Lib.hid hbx; clear hbx
        cases hq : coverOne x.cut y.cut s.sp
        · have HN2 := Lib.hid (HNo.out hq)
          clear hq
          go_wp2
          exact ⟨⟨k + 1, by omega, by go_num, HN2.out, HBX.out⟩, by simp [intOf]; omega⟩
        · have HY2 := Lib.hid (HYes.out hq)
          clear hq
          go_wp2
          go_ret
          exact ⟨by rw [HY2.out]; rfl, HB.out.trans (HBX.out.mono HB.out.size)⟩
    · have HF : Hid (coversB (l.map RSp.sp) x.cut y.cut = false) := covers_no (fun j hj => HT.out j (by rw [HLX.out] at hj; omega))
      go_wp2
      go_ret
      exact ⟨by rw [HF.out]; rfl, HB.out.trans (HW.out.mono HB.out.size)⟩
end Go.Proofs.YtdbdeadcffpbfaaGreatDoor.Span

namespace Go.Proofs.YtdbdeadcffpbfaaGreatDoor.Span
open Go.RowKit Num Ident Semver Prec

theorem cuInfo : (Tryz.prog.info? 35).map (fun i => (i.zero, i.size, i.bytes)) = some (some (.agg #[.int .i64 0, .int .u64 0, .int .u64 0, .int .u64 0, .slice none 0 0, .slice none 0 0]), 6, 80) := by kernel_rfl
theorem wpList_append_cu (w : World) {ops : Array Oper} {rest : List Oper} {o : Oper} {a : Act} {Q : Exit → Act → World → Prop} (hgd : o.guard = none) (s x : Operand)
    (ho : o.op = .call { callee := .builtin .append, args := #[s, x], argTypes := #[50, 50] })
    (base : Nat) (v : Value) (n : Nat) (l : List RCut) (hs : a.eval s = v) (hown : w.ownsRow base 35 6 v n (l.flatMap RCut.vals))
    (ad : Addr) (m c : Nat) (r : List RCut) (hx : a.eval x = .slice (some ad) m c) (hr : r.length = m) (hnews : ∀ j u, (r.flatMap RCut.vals)[j]? = some u → w.cell? (ad.add j) = some u) (hb : (n + m) * 80 ≤ 140737488355328) (hbase : base ≤ w.heap.size)
    (h : ∀ v' w', w'.ownsRow base 35 6 v' (n + m) ((l ++ r).flatMap RCut.vals) → Below base w w' → wpList Tryz.prog ops Q rest (a.put o.dst v') w') : wpList Tryz.prog ops Q (o :: rest) a w := by
  obtain ⟨i, hi, hz, hsz, hby⟩ := info_parts cuInfo
  refine wpList_append_own w hgd s x 50 ho base 35 i _ 6 80 Tryz.underlying50 hi hz hsz hby rfl (by omega) v n _ hs hown ad m c _ hx (by rw [flat_len _ 6 vals_len, hr]) hnews (flat_one _ vals_one r) (by unfold maxLen; omega) hb hbase (fun v' w' h2 h3 _ => ?_)
  refine h v' w' (by rw [List.flatMap_append]; exact h2) ((Below.refl base w).grown h3 hbase fun k hk => (hown.lt k hk).1)
end Go.Proofs.YtdbdeadcffpbfaaGreatDoor.Span

namespace Go.Proofs.YtdbdeadcffpbfaaGreatDoor.Span
open Go.RowKit Num Ident Semver Prec

/-- A slice of cuts reads as the list, from a place on. -/
def CuSrc (W : World) (b o : Nat) (L : List RCut) : Prop := b < W.heap.size ∧ ∀ j u, (L.flatMap RCut.vals)[j]? = some u → W.cell? ⟨b, o + j, none⟩ = some u
theorem CuSrc.kept {W W' : World} {b o : Nat} {L : List RCut} (h : CuSrc W b o L) (hb : Below W.heap.size W W') : CuSrc W' b o L :=
  ⟨Nat.lt_of_lt_of_le h.1 hb.size, fun j u hu => (hb.cell (p := ⟨b, o + j, none⟩) h.1).trans (h.2 j u hu)⟩
theorem CuSrc.keptB {W W' : World} {b o B : Nat} {L : List RCut} (h : CuSrc W b o L) (hlt : b < B) (hb : Below B W W') : CuSrc W' b o L :=
  ⟨Nat.lt_of_lt_of_le h.1 hb.size, fun j u hu => (hb.cell (p := ⟨b, o + j, none⟩) hlt).trans (h.2 j u hu)⟩
theorem CuSrc.at {W : World} {b o : Nat} {L : List RCut} (h : CuSrc W b o L) {m : Nat} (hm : m < L.length) : W.cell? ⟨b, o + m * 6, none⟩ = some (.int .i64 (L.getD m default).kind) ∧ W.cell? ⟨b, o + m * 6 + 1, none⟩ = some (.int .u64 ((L.getD m default).v.a : Int)) ∧ W.cell? ⟨b, o + m * 6 + 2, none⟩ = some (.int .u64 ((L.getD m default).v.b : Int)) ∧ W.cell? ⟨b, o + m * 6 + 3, none⟩ = some (.int .u64 ((L.getD m default).v.c : Int)) ∧ W.cell? ⟨b, o + m * 6 + 4, none⟩ = some (.slice (L.getD m default).A (L.getD m default).v.pre.length (L.getD m default).c) ∧ W.cell? ⟨b, o + m * 6 + 5, none⟩ = some (.slice (L.getD m default).B (L.getD m default).v.build.length (L.getD m default).d) := by
  have k : ∀ i u, i < 6 → (L.getD m default).vals[i]? = some u → W.cell? ⟨b, o + m * 6 + i, none⟩ = some u := fun i u hi hu => by
    have := h.2 (m * 6 + i) u (by rw [flat_get RCut.vals 6 vals_len L m i hm hi]; exact hu)
    rwa [← Nat.add_assoc] at this
  exact ⟨k 0 _ (by omega) rfl, k 1 _ (by omega) rfl, k 2 _ (by omega) rfl, k 3 _ (by omega) rfl, k 4 _ (by omega) rfl, k 5 _ (by omega) rfl⟩
theorem CuSrc.take {W : World} {b o : Nat} {L : List RCut} (h : CuSrc W b o L) (m : Nat) : ∀ j u, ((L.take m).flatMap RCut.vals)[j]? = some u → W.cell? ((⟨b, o, none⟩ : Addr).add j) = some u := fun j u hu => by
  rw [add_none]
  refine h.2 j u ?_
  rw [← List.take_append_drop m L, List.flatMap_append, List.getElem?_append_left (List.getElem?_eq_some_iff.1 hu).1]; exact hu
theorem CuSrc.drop {W : World} {b o : Nat} {L : List RCut} (h : CuSrc W b o L) {m : Nat} (hm : m ≤ L.length) : ∀ j u, ((L.drop m).flatMap RCut.vals)[j]? = some u → W.cell? ((⟨b, o + m * 6, none⟩ : Addr).add j) = some u := fun j u hu => by
  rw [add_none, Nat.add_assoc]
  refine h.2 (m * 6 + j) u ?_
  have e : ((L.take m).flatMap RCut.vals).length = m * 6 := by rw [flat_len RCut.vals 6 vals_len, List.length_take, Nat.min_eq_left hm]
  rw [← List.take_append_drop m L, List.flatMap_append, List.getElem?_append_right (by rw [e]; omega), e, Nat.add_sub_cancel_left]; exact hu
/-- What holds of the cuts that were gathered. -/
structure CutsAt (w wl : World) (b o cp : Nat) (L : List RCut) (W : World) : Prop where
  src : CuSrc W b o L
  lies : ∀ r ∈ L, Lies w r
  rise : Rise (L.map RCut.cut)
  cap : L.length ≤ cp
  capm : cp ≤ maxLen
  bel : Below wl.heap.size wl W
theorem CutsAt.kept {w wl : World} {b o cp : Nat} {L : List RCut} {W W' : World} (h : CutsAt w wl b o cp L W) (hb : Below W.heap.size W W') : CutsAt w wl b o cp L W' :=
  ⟨h.src.kept hb, h.lies, h.rise, h.cap, h.capm, h.bel.trans (hb.mono h.bel.size)⟩
/-- The cuts of a span that were looked at are there. -/
def Two (M : List Cut) (s : Sp) (q : Nat) : Prop := (1 ≤ q → right s.lo = true → Hits M s.lo) ∧ (2 ≤ q → right s.hi = true → Hits M s.hi)
theorem HitsAll.more {L M : List Cut} {l : List Sp} (h : HitsAll L l) (hm : ∀ x ∈ L, x ∈ M) : HitsAll M l := fun s hs => ⟨fun g => ((h s hs).1 g).more hm, fun g => ((h s hs).2 g).more hm⟩
theorem HitsAll.nil (L : List Cut) : HitsAll L [] := fun s hs => by cases hs
theorem HitsAll.snoc {L : List Cut} {l : List Sp} {s : Sp} (h : HitsAll L l) (h2 : Two L s 2) : HitsAll L (l ++ [s]) := fun t ht => by
  rcases List.mem_append.1 ht with ht | ht
  · exact h t ht
  · rw [List.mem_singleton] at ht; subst ht; exact ⟨h2.1 (by omega), h2.2 (by omega)⟩
theorem cut_at_map (L : List RCut) (m : Nat) : cutAt (L.map RCut.cut) m = (L.getD m default).cut := by
  unfold cutAt
  by_cases h : m < L.length
  · simp [List.getD, List.getElem?_eq_getElem h]
  · simp [List.getD, List.getElem?_eq_none (Nat.le_of_not_lt h)]; rfl
theorem getC_mem {l : List RCut} {k : Nat} (h : k < l.length) : l.getD k default ∈ l := by simp [List.getD, List.getElem?_eq_getElem h]
theorem ins_map (L : List RCut) (c : RCut) (m : Nat) : (L.take m ++ c :: L.drop m).map RCut.cut = (L.map RCut.cut).take m ++ c.cut :: (L.map RCut.cut).drop m := by
  rw [List.map_append, List.map_cons, List.map_take, List.map_drop]
theorem take_all (l : List RSp) (k : Nat) (h : k < l.length) : (l.take (k + 1)).map RSp.sp = (l.take k).map RSp.sp ++ [(l.getD k default).sp] := by
  rw [List.take_add_one, List.map_append, List.getElem?_eq_getElem h]; simp [List.getD, List.getElem?_eq_getElem h]
def CutsJ1 (w wl : World) (N : Nat) (all : List RSp) (v i : Value) (W : World) : Prop := ∃ (k b o cp : Nat) (L : List RCut), k ≤ N ∧ i = .int .i64 k ∧ v = .slice (some ⟨b, o, none⟩) L.length cp ∧ CutsAt w wl b o cp L W ∧ HitsAll (L.map RCut.cut) ((all.take k).map RSp.sp) ∧ L.length ≤ 2 + 2 * k
def CutsJ2 (w wl : World) (all : List RSp) (k : Nat) (v i : Value) (W : World) : Prop := ∃ (q b o cp : Nat) (L : List RCut), q ≤ 2 ∧ i = .int .i64 q ∧ v = .slice (some ⟨b, o, none⟩) L.length cp ∧ CutsAt w wl b o cp L W ∧ HitsAll (L.map RCut.cut) ((all.take k).map RSp.sp) ∧ Two (L.map RCut.cut) (all.getD k default).sp q ∧ L.length ≤ 2 + 2 * k + q
/-- What Cuts leaves. -/
def CutsPost (w : World) (a b : List RSp) (e : Ending) (w' : World) : Prop :=
  ∃ (g o cp : Nat) (L : List RCut), e = .returned (.slice (some ⟨g, o, none⟩) L.length cp) ∧ CuSrc w' g o L ∧ (∀ r ∈ L, Lies w r) ∧ Rise (L.map RCut.cut) ∧ HitsAll (L.map RCut.cut) (a.map RSp.sp) ∧ HitsAll (L.map RCut.cut) (b.map RSp.sp) ∧ L.length ≤ 2 + 2 * (a.length + b.length) ∧ Below w.heap.size w w'
/-- A slice of spans as a source. -/
structure SpSrc (w : World) (A : Option Addr) (n c : Nat) (l : List RSp) : Prop where
  row : SpRow w A n l
  nil : A = none → c = 0
set_option maxRecDepth 100000 in
theorem run_append_sps (w : World) (ty : TypeId) (base : Nat) (v : Value) (n : Nat) (l : List RSp) (hown : w.ownsRow base 37 12 v n (l.flatMap RSp.vals)) (A : Option Addr) (m c : Nat) (r : List RSp) (hr : SpSrc w A m c r) (hb : (n + m) * 160 ≤ 140737488355328) (hbase : base ≤ w.heap.size) :
    ∃ v' w', (Builtin.append_ #[22, 22] ty #[v, .slice A m c]).run Tryz.prog w = .ok v' w' ∧ w'.ownsRow base 37 12 v' (n + m) ((l ++ r).flatMap RSp.vals) ∧ w.grownBy w' v.ownBlock := by
  obtain ⟨i, hi, hz, hs, hby⟩ := info_parts spInfo
  cases A with
  | none =>
    obtain rfl := hr.nil rfl
    have h0 : m = 0 := by
      rcases Nat.eq_zero_or_pos m with h | h
      · exact h
      · obtain ⟨b, o, e, _⟩ := hr.row.2.2 h; cases e
    subst h0
    obtain rfl : r = [] := List.eq_nil_of_length_eq_zero hr.row.1
    exact ⟨v, w, run_append_owned_none (P := Tryz.prog) (w := w) base 22 ty 37 i 12 Tryz.underlying22 hi v n _ hown, by simpa using hown, World.grownBy.refl w _⟩
  | some ad =>
    refine run_append_sp w ty base v n l hown ad m c r hr.row.1 (fun j u hu => ?_) hb hbase
    have hj : j < r.length * 12 := by have := (List.getElem?_eq_some_iff.1 hu).1; rwa [flat_len RSp.vals 12 svals_len] at this
    obtain ⟨b, o, e, _, hc⟩ := hr.row.2.2 (by rw [← hr.row.1]; omega)
    injection e with e
    subst e
    have hd : j = (j / 12) * 12 + j % 12 := by omega
    rw [hd, flat_get RSp.vals 12 svals_len r (j / 12) (j % 12) (by omega) (by omega)] at hu
    have := hc (j / 12) (by rw [← hr.row.1]; omega) (j % 12) u hu
    rw [add_none]
    rw [Nat.add_assoc, ← hd] at this
    exact this
set_option maxRecDepth 100000 in
theorem wpList_append_sps (w : World) {ops : Array Oper} {rest : List Oper} {o : Oper} {a : Act} {Q : Exit → Act → World → Prop} (hgd : o.guard = none) (s x : Operand)
    (ho : o.op = .call { callee := .builtin .append, args := #[s, x], argTypes := #[22, 22] })
    (base : Nat) (v : Value) (n : Nat) (l : List RSp) (hs : a.eval s = v) (hown : w.ownsRow base 37 12 v n (l.flatMap RSp.vals)) (A : Option Addr) (m c : Nat) (r : List RSp) (hx : a.eval x = .slice A m c) (hr : SpSrc w A m c r) (hb : (n + m) * 160 ≤ 140737488355328) (hbase : base ≤ w.heap.size)
    (h : ∀ v' w', w'.ownsRow base 37 12 v' (n + m) ((l ++ r).flatMap RSp.vals) → Below base w w' → wpList Tryz.prog ops Q rest (a.put o.dst v') w') : wpList Tryz.prog ops Q (o :: rest) a w := by
  refine wpList_plain hgd fun K hK => ?_
  obtain ⟨v', w', hrun, h2, h3⟩ := run_append_sps w o.type base v n l hown A m c r hr hb hbase
  unfold Oper.wp execOp
  simp only [ho, resolve, invoke, builtin, Sem.run_bind, Sem.run_pure, Result.andThen_ok, List.map_toArray, List.map_cons, List.map_nil, hs, hx, hrun]
  exact hK _ _ (h v' w' h2 ((Below.refl base w).grown h3 hbase fun k hk => (hown.lt k hk).1))
set_option maxRecDepth 100000 in
theorem run_append_cu (w : World) (ty : TypeId) (base : Nat) (v : Value) (n : Nat) (l : List RCut) (hown : w.ownsRow base 35 6 v n (l.flatMap RCut.vals)) (ad : Addr) (m c : Nat) (r : List RCut) (hr : r.length = m) (hnews : ∀ j u, (r.flatMap RCut.vals)[j]? = some u → w.cell? (ad.add j) = some u) (hb : (n + m) * 80 ≤ 140737488355328) (hbase : base ≤ w.heap.size) :
    ∃ v' w', (Builtin.append_ #[50, 50] ty #[v, .slice (some ad) m c]).run Tryz.prog w = .ok v' w' ∧ w'.ownsRow base 35 6 v' (n + m) ((l ++ r).flatMap RCut.vals) ∧ w.grownBy w' v.ownBlock := by
  obtain ⟨i, hi, hz, hs, hby⟩ := info_parts cuInfo
  obtain ⟨v', w', h3, h4, h5, _⟩ := run_append_own (P := Tryz.prog) w base 50 ty 35 i _ 6 80 Tryz.underlying50 hi hz hs hby rfl (by omega) v n _ hown ad m c (r.flatMap RCut.vals)
    (by rw [flat_len _ 6 vals_len, hr]) hnews (flat_one _ vals_one r) (by unfold maxLen; omega) hb hbase
  exact ⟨v', w', h3, by rw [List.flatMap_append]; exact h4, h5⟩
theorem CuSrc.grown {w w' : World} {row : Option Nat} {b o : Nat} {L : List RCut} (h : CuSrc w b o L) (hg : w.grownBy w' row) (hne : some b ≠ row) : CuSrc w' b o L :=
  ⟨Nat.lt_of_lt_of_le h.1 hg.size, fun j u hu => (World.cell?_of_block (w := w) (a := ⟨b, o + j, none⟩) (hg.block b h.1 hne)).trans (h.2 j u hu)⟩
theorem CuSrc.dropAd {W : World} {b o : Nat} {L : List RCut} (h : CuSrc W b o L) {m cp : Nat} {ad : Addr} (hm : m ≤ L.length) (hc : L.length ≤ cp) (had : (if cp = m then (⟨b, o, none⟩ : Addr) else ⟨b, o + m * 6, none⟩) = ad) : ∀ j u, ((L.drop m).flatMap RCut.vals)[j]? = some u → W.cell? (ad.add j) = some u := by
  intro j u hu
  by_cases hcm : cp = m
  · rw [List.drop_eq_nil_of_le (by omega)] at hu; simp at hu
  · rw [if_neg hcm] at had; subst had; exact h.drop hm j u hu
theorem own_src {w : World} {base : Nat} {v : Value} {L : List RCut} (h : w.ownsRow base 35 6 v L.length (L.flatMap RCut.vals)) (h0 : 0 < L.length) : ∃ g cp, v = .slice (some ⟨g, 0, none⟩) L.length cp ∧ L.length ≤ cp ∧ cp ≤ maxLen ∧ CuSrc w g 0 L := by
  have hcs := fun g => h.cells (g := g)
  rcases h.2 with ⟨_, h1⟩ | ⟨g, cap, cur, rfl, _, hg, hnc, hcm, _⟩
  · omega
  · exact ⟨g, cap, rfl, hnc, hcm, (Array.getElem?_eq_some_iff.1 hg).1, fun j u hu => by have := hcs g rfl j u hu; rwa [add_none] at this⟩
set_option maxRecDepth 100000 in
theorem region_append_cu {yl : Nat → Option Bool} {o : Oper} {a : Act} {w w' : World} {K : Act → World → Prop} {Q : Exit → Act → World → Prop} {v v' : Value} {y : Value} (hw : Region.wanted o yl = true) (s x : Operand)
    (ho : o.op = .call { callee := .builtin .append, args := #[s, x], argTypes := #[50, 50] }) (hs : a.eval s = v) (hx : a.eval x = y)
    (hrun : (Builtin.append_ #[50, 50] o.type #[v, y]).run Tryz.prog w = .ok v' w') (h : K (a.put o.dst v') w') : if Region.wanted o yl = true then Oper.wp Tryz.prog o a w K Q else K (a.put o.dst undef) w := by
  rw [if_pos hw]
  unfold Oper.wp execOp
  simp only [ho, resolve, invoke, builtin, Sem.run_bind, Sem.run_pure, Result.andThen_ok, List.map_toArray, List.map_cons, List.map_nil, hs, hx, hrun]
  exact h
set_option maxRecDepth 100000 in
set_option maxHeartbeats 12800000 in
theorem ins17 {Q : Exit → Act → World → Prop} (w w5 wz : World) (b o cp m pc : Nat) (L : List RCut) (c : RCut) (u0 u1 u2 u3 u4 u6 u7 u8 u11 u12 u13 u14 u15 u16 u17 u18 u19 u20 u21 u22 u23 u24 u25 u26 u27 u28 u29 u30 u31 u32 u33 u34 u35 u36 u37 u38 u39 u40 u41 u42 u43 u44 u45 u46 u47 u48 u49 u50 u51 u52 u53 u54 u55 u56 u57 u58 u59 u60 u61 u62 u63 u64 u65 u66 u67 u68 u69 u70 u71 u72 u73 u74 u75 u76 u77 u78 u79 u80 u81 u82 u83 u84 : Value) (hm : m ≤ L.length) (hlen : L.length ≤ 100000) (ha7 : CutsAt w w5 b o cp L wz) (k7 : At6B wz pc (.int .i64 c.kind) (.int .u64 (c.v.a : Int)) (.int .u64 (c.v.b : Int)) (.int .u64 (c.v.c : Int)) (.slice c.A c.v.pre.length c.c) (.slice c.B c.v.build.length c.d))
    (hpan : ∀ x (a : Act) (d : Nat) v W, Q (.panic x) (a.put (some d) v) W → Q (.panic x) a W) (h : ∀ (g' cp' : Nat) (L' : List RCut) (W' : World) (t0 t1 t2 t3 t4 t5 t6 t7 t8 t9 t10 t11 : Value), L.take m ++ c :: L.drop m = L' → CuSrc W' g' 0 L' → L'.length ≤ cp' → cp' ≤ maxLen → Below wz.heap.size wz W' → Q Exit.normal { tmps := #[u0, u1, u2, u3, u4, .slice (some ⟨g', 0, none⟩) L'.length cp', u6, u7, u8, .pointer (some ⟨pc, 0, none⟩), .int .i64 (m : Int), u11, u12, u13, u14, u15, u16, u17, u18, u19, u20, u21, u22, u23, u24, u25, u26, u27, u28, u29, u30, u31, u32, u33, u34, u35, u36, u37, u38, u39, u40, u41, u42, u43, u44, u45, u46, u47, u48, u49, u50, u51, u52, u53, u54, u55, u56, u57, u58, u59, u60, u61, u62, u63, u64, u65, u66, u67, u68, u69, u70, u71, t0, t1, t2, t3, t4, t5, t6, t7, t8, t9, t10, t11, u84], defers := [] } W') :
    (Code.region 17 #[{ dst := some 72, op := Op.buildSlice 50 0 #[], type := 50, pos := "ref.go:80", after := #[], guard := none }, { dst := some 73, op := Op.move (Operand.tmp 5), type := 50, pos := "ref.go:80", after := #[], guard := none }, { dst := some 74, op := Op.move (Operand.tmp 10), type := 3, pos := "ref.go:80", after := #[], guard := none }, { dst := some 75, op := Op.slice 50 (Operand.tmp 73) none (some (Operand.tmp 74)) none, type := 50, pos := "ref.go:80", after := #[{ on := 1, ground := Ground.data }, { on := 2, ground := Ground.data }], guard := none }, { dst := some 76, op := Op.call { callee := Callee.builtin Builtin.append, args := #[Operand.tmp 72, Operand.tmp 75], argTypes := #[50, 50] }, type := 50, pos := "ref.go:80", after := #[{ on := 0, ground := Ground.data }, { on := 3, ground := Ground.data }], guard := none }, { dst := some 77, op := Op.load 35 (Operand.tmp 9), type := 35, pos := "ref.go:80", after := #[], guard := none }, { dst := some 78, op := Op.buildSlice 50 1 #[(0, Operand.tmp 77)], type := 50, pos := "ref.go:80", after := #[{ on := 5, ground := Ground.data }], guard := none }, { dst := some 79, op := Op.call { callee := Callee.builtin Builtin.append, args := #[Operand.tmp 76, Operand.tmp 78], argTypes := #[50, 50] }, type := 50, pos := "ref.go:80", after := #[{ on := 4, ground := Ground.data }, { on := 6, ground := Ground.data }, { on := 4, ground := Ground.chain }], guard := none }, { dst := some 80, op := Op.move (Operand.tmp 5), type := 50, pos := "ref.go:80", after := #[], guard := none }, { dst := some 81, op := Op.move (Operand.tmp 10), type := 3, pos := "ref.go:80", after := #[], guard := none }, { dst := some 82, op := Op.slice 50 (Operand.tmp 80) (some (Operand.tmp 81)) none none, type := 50, pos := "ref.go:80", after := #[{ on := 8, ground := Ground.data }, { on := 9, ground := Ground.data }], guard := none }, { dst := some 83, op := Op.call { callee := Callee.builtin Builtin.append, args := #[Operand.tmp 79, Operand.tmp 82], argTypes := #[50, 50] }, type := 50, pos := "ref.go:80", after := #[{ on := 7, ground := Ground.data }, { on := 10, ground := Ground.data }, { on := 7, ground := Ground.chain }], guard := none }, { dst := some 5, op := Op.assign (Operand.tmp 83), type := 50, pos := "ref.go:80", after := #[{ on := 11, ground := Ground.data }, { on := 11, ground := Ground.chain }, { on := 0, ground := Ground.phase }, { on := 1, ground := Ground.phase }, { on := 2, ground := Ground.phase }, { on := 3, ground := Ground.phase }, { on := 4, ground := Ground.phase }, { on := 5, ground := Ground.phase }, { on := 6, ground := Ground.phase }, { on := 7, ground := Ground.phase }, { on := 8, ground := Ground.phase }, { on := 9, ground := Ground.phase }, { on := 10, ground := Ground.phase }, { on := 11, ground := Ground.phase }], guard := none }] true).wp Tryz.prog Q { tmps := #[u0, u1, u2, u3, u4, .slice (some ⟨b, o, none⟩) L.length cp, u6, u7, u8, .pointer (some ⟨pc, 0, none⟩), .int .i64 (m : Int), u11, u12, u13, u14, u15, u16, u17, u18, u19, u20, u21, u22, u23, u24, u25, u26, u27, u28, u29, u30, u31, u32, u33, u34, u35, u36, u37, u38, u39, u40, u41, u42, u43, u44, u45, u46, u47, u48, u49, u50, u51, u52, u53, u54, u55, u56, u57, u58, u59, u60, u61, u62, u63, u64, u65, u66, u67, u68, u69, u70, u71, u72, u73, u74, u75, u76, u77, u78, u79, u80, u81, u82, u83, u84], defers := [] } wz := by
  have HPA := Lib.hid hpan
  clear hpan
  obtain ⟨ad, had⟩ : ∃ ad, (if cp = m then (⟨b, o, none⟩ : Addr) else ⟨b, o + m * 6, none⟩) = ad := ⟨_, rfl⟩
  have HAD := Lib.hid had
  have hmc : m ≤ cp := Nat.le_trans hm ha7.cap
  have hcm := ha7.capm
  unfold maxLen at hcm
  have HA7 := Lib.hid ha7
  have K7 := Lib.hid k7
  have HQ := Lib.hid h
  clear ha7 k7 h
  obtain ⟨hpc, _, z0, z1, z2, z3, z4, z5⟩ := K7.out
  have H0 : Hid (Below wz.heap.size wz wz.drew) := (Below.refl _ _).drew
  obtain ⟨L', hL'⟩ : ∃ L', L.take m ++ c :: L.drop m = L' := ⟨_, rfl⟩
  have HLL := Lib.hid hL'
  have hl2 : L'.length = L.length + 1 := by rw [← hL']; simp; omega
  clear hL' had
  refine wp_region_held_drew (S := fun w' => Below wz.heap.size wz w') (by kernel_rfl) H0.out (fun hHeld => ?_)
  refine wpAnyH_take (i := 1) (oi := { dst := some 73, op := Op.move (Operand.tmp 5), type := 50, pos := "ref.go:80", after := #[], guard := none }) (v := .slice (some ⟨b, o, none⟩) L.length cp) rfl (by kernel_rfl) (by kernel_rfl) (by kernel_rfl) (fun _ _ _ h => HPA.out _ _ _ _ _ h) (Or.inl ⟨by rfl, fun w' hS' => by go_simp⟩) (by assumption) ?_
  simp only [Act.put, List.setIfInBounds_toArray, List.set_cons_zero, List.set_cons_succ]
  refine wpAnyH_take (i := 2) (oi := { dst := some 74, op := Op.move (Operand.tmp 10), type := 3, pos := "ref.go:80", after := #[], guard := none }) (v := .int .i64 (m : Int)) rfl (by kernel_rfl) (by kernel_rfl) (by kernel_rfl) (fun _ _ _ h => HPA.out _ _ _ _ _ h) (Or.inl ⟨by rfl, fun w' hS' => by go_simp⟩) (by assumption) ?_
  simp only [Act.put, List.setIfInBounds_toArray, List.set_cons_zero, List.set_cons_succ]
  refine wpAnyH_take (i := 3) (oi := { dst := some 75, op := Op.slice 50 (Operand.tmp 73) none (some (Operand.tmp 74)) none, type := 50, pos := "ref.go:80", after := #[{ on := 1, ground := Ground.data }, { on := 2, ground := Ground.data }], guard := none }) (v := .slice (some ⟨b, o, none⟩) m cp) rfl (by kernel_rfl) (by kernel_rfl) (by kernel_rfl) (fun _ _ _ h => HPA.out _ _ _ _ _ h) (Or.inl ⟨by rfl, fun w' hS' => by go_simp⟩) (by assumption) ?_
  simp only [Act.put, List.setIfInBounds_toArray, List.set_cons_zero, List.set_cons_succ]
  refine wpAnyH_take (i := 5) (oi := { dst := some 77, op := Op.load 35 (Operand.tmp 9), type := 35, pos := "ref.go:80", after := #[], guard := none }) (v := .agg #[.int .i64 c.kind, .int .u64 (c.v.a : Int), .int .u64 (c.v.b : Int), .int .u64 (c.v.c : Int), .slice c.A c.v.pre.length c.c, .slice c.B c.v.build.length c.d]) rfl (by kernel_rfl) (by kernel_rfl) (by kernel_rfl) (fun _ _ _ h => HPA.out _ _ _ _ _ h) (Or.inl ⟨by rfl, fun w' hS' => by have q0 := (hS'.cell (p := ⟨pc, 0, none⟩) hpc).trans z0; have q1 := (hS'.cell (p := ⟨pc, 1, none⟩) hpc).trans z1; have q2 := (hS'.cell (p := ⟨pc, 2, none⟩) hpc).trans z2; have q3 := (hS'.cell (p := ⟨pc, 3, none⟩) hpc).trans z3; have q4 := (hS'.cell (p := ⟨pc, 4, none⟩) hpc).trans z4; have q5 := (hS'.cell (p := ⟨pc, 5, none⟩) hpc).trans z5; go_simp⟩) (by assumption) ?_
  simp only [Act.put, List.setIfInBounds_toArray, List.set_cons_zero, List.set_cons_succ]
  refine wpAnyH_take (i := 8) (oi := { dst := some 80, op := Op.move (Operand.tmp 5), type := 50, pos := "ref.go:80", after := #[], guard := none }) (v := .slice (some ⟨b, o, none⟩) L.length cp) rfl (by kernel_rfl) (by kernel_rfl) (by kernel_rfl) (fun _ _ _ h => HPA.out _ _ _ _ _ h) (Or.inl ⟨by rfl, fun w' hS' => by go_simp⟩) (by assumption) ?_
  simp only [Act.put, List.setIfInBounds_toArray, List.set_cons_zero, List.set_cons_succ]
  refine wpAnyH_take (i := 9) (oi := { dst := some 81, op := Op.move (Operand.tmp 10), type := 3, pos := "ref.go:80", after := #[], guard := none }) (v := .int .i64 (m : Int)) rfl (by kernel_rfl) (by kernel_rfl) (by kernel_rfl) (fun _ _ _ h => HPA.out _ _ _ _ _ h) (Or.inl ⟨by rfl, fun w' hS' => by go_simp⟩) (by assumption) ?_
  simp only [Act.put, List.setIfInBounds_toArray, List.set_cons_zero, List.set_cons_succ]
  refine wpAnyH_take (i := 10) (oi := { dst := some 82, op := Op.slice 50 (Operand.tmp 80) (some (Operand.tmp 81)) none none, type := 50, pos := "ref.go:80", after := #[{ on := 8, ground := Ground.data }, { on := 9, ground := Ground.data }], guard := none }) (v := .slice (some ad) (L.length - m) (cp - m)) rfl (by kernel_rfl) (by kernel_rfl) (by kernel_rfl) (fun _ _ _ h => HPA.out _ _ _ _ _ h) (Or.inl ⟨by rfl, fun w' hS' => by go_simp; rw [← HAD.out]; split <;> rfl⟩) (by assumption) ?_
  simp only [Act.put, List.setIfInBounds_toArray, List.set_cons_zero, List.set_cons_succ]
  refine wpAnyH_ready (rs := [0, 6]) (by kernel_rfl) (by simp) ?_
  refine AllReadyH.cons (o := { dst := some 72, op := Op.buildSlice 50 0 #[], type := 50, pos := "ref.go:80", after := #[], guard := none }) rfl (fun K hK => ?_) (AllReadyH.cons (o := { dst := some 78, op := Op.buildSlice 50 1 #[(0, Operand.tmp 77)], type := 50, pos := "ref.go:80", after := #[{ on := 5, ground := Ground.data }], guard := none }) rfl (fun K hK => ?_) (AllReadyH.nil))
  · go_simp
    have H1 : Hid (Below wz.heap.size wz (wz.drew.alloc (.cells #[] 35))) := H0.out.alloc H0.out.size _
    have OW1 : Hid (World.ownsRow (wz.drew.alloc (.cells #[] 35)) wz.heap.size 35 6 (.slice (some ⟨wz.heap.size, 0, none⟩) 0 0) 0 (([] : List RCut).flatMap RCut.vals)) := by
      have q := World.ownsRow_made (base := wz.heap.size) (e := 35) (size := 6) wz.drew #[] 0 H0.out.size (by unfold maxLen; omega) rfl
      try rw [size_alloc] at q
      exact q
    refine hK.out _ _ H1.out (fun hHeld => ?_)
    clear hK K hHeld
    try simp only [Act.put, List.setIfInBounds_toArray, List.set_cons_zero, List.set_cons_succ]
    refine wpAnyH_ready (rs := [4, 6]) (by kernel_rfl) (by simp) ?_
    refine AllReadyH.cons (o := { dst := some 76, op := Op.call { callee := Callee.builtin Builtin.append, args := #[Operand.tmp 72, Operand.tmp 75], argTypes := #[50, 50] }, type := 50, pos := "ref.go:80", after := #[{ on := 0, ground := Ground.data }, { on := 3, ground := Ground.data }], guard := none }) rfl (fun K hK => ?_) (AllReadyH.cons (o := { dst := some 78, op := Op.buildSlice 50 1 #[(0, Operand.tmp 77)], type := 50, pos := "ref.go:80", after := #[{ on := 5, ground := Ground.data }], guard := none }) rfl (fun K hK => ?_) (AllReadyH.nil))
    · obtain ⟨v2, u2, hrun, ho, hg⟩ := run_append_cu (wz.drew.alloc (.cells #[] 35)) 50 wz.heap.size (.slice (some ⟨wz.heap.size, 0, none⟩) 0 0) 0 [] OW1.out ⟨b, o, none⟩ m cp (L.take m) (by first | (simp; done) | (simp; omega)) ((HA7.out.src.kept H1.out).take m) (by omega) H1.out.size
      have H2 : Hid (Below wz.heap.size wz u2) := H1.out.grown hg H1.out.size (fun k hk => (OW1.out.lt k hk).1)
      have OW2 := Lib.hid ho
      rw [Nat.zero_add, List.nil_append] at OW2
      refine region_append_cu (by rfl) _ _ rfl rfl rfl hrun ?_
      clear hrun ho hg
      refine hK.out _ _ H2.out (fun hHeld => ?_)
      clear hK K hHeld
      try simp only [Act.put, List.setIfInBounds_toArray, List.set_cons_zero, List.set_cons_succ]
      refine wpAnyH_ready (rs := [6]) (by kernel_rfl) (by simp) ?_
      refine AllReadyH.cons (o := { dst := some 78, op := Op.buildSlice 50 1 #[(0, Operand.tmp 77)], type := 50, pos := "ref.go:80", after := #[{ on := 5, ground := Ground.data }], guard := none }) rfl (fun K hK => ?_) (AllReadyH.nil)
      go_simp
      have H3 : Hid (Below wz.heap.size wz (u2.alloc (.cells #[.int .i64 c.kind, .int .u64 (c.v.a : Int), .int .u64 (c.v.b : Int), .int .u64 (c.v.c : Int), .slice c.A c.v.pre.length c.c, .slice c.B c.v.build.length c.d] 35))) := H2.out.alloc H2.out.size _
      have NS3 : Hid (CuSrc (u2.alloc (.cells #[.int .i64 c.kind, .int .u64 (c.v.a : Int), .int .u64 (c.v.b : Int), .int .u64 (c.v.c : Int), .slice c.A c.v.pre.length c.c, .slice c.B c.v.build.length c.d] 35)) (u2.heap.size) 0 [c]) := by
        have q : CuSrc (u2.alloc (.cells #[.int .i64 c.kind, .int .u64 (c.v.a : Int), .int .u64 (c.v.b : Int), .int .u64 (c.v.c : Int), .slice c.A c.v.pre.length c.c, .slice c.B c.v.build.length c.d] 35)) u2.heap.size 0 [c] := ⟨by simp, fun j u hu => by have := news_new u2 ([c].flatMap RCut.vals) 35 j u hu; rw [add_none] at this; exact this⟩
        try rw [size_alloc] at q
        exact q
      have OW3 := Lib.hid (OW2.out.alloc (.cells #[.int .i64 c.kind, .int .u64 (c.v.a : Int), .int .u64 (c.v.b : Int), .int .u64 (c.v.c : Int), .slice c.A c.v.pre.length c.c, .slice c.B c.v.build.length c.d] 35))
      refine hK.out _ _ H3.out (fun hHeld => ?_)
      clear hK K hHeld
      try simp only [Act.put, List.setIfInBounds_toArray, List.set_cons_zero, List.set_cons_succ]
      refine wpAnyH_ready (rs := [7]) (by kernel_rfl) (by simp) ?_
      refine AllReadyH.cons (o := { dst := some 79, op := Op.call { callee := Callee.builtin Builtin.append, args := #[Operand.tmp 76, Operand.tmp 78], argTypes := #[50, 50] }, type := 50, pos := "ref.go:80", after := #[{ on := 4, ground := Ground.data }, { on := 6, ground := Ground.data }, { on := 4, ground := Ground.chain }], guard := none }) rfl (fun K hK => ?_) (AllReadyH.nil)
      obtain ⟨v4, u4, hrun, ho, hg⟩ := run_append_cu (u2.alloc (.cells #[.int .i64 c.kind, .int .u64 (c.v.a : Int), .int .u64 (c.v.b : Int), .int .u64 (c.v.c : Int), .slice c.A c.v.pre.length c.c, .slice c.B c.v.build.length c.d] 35)) 50 wz.heap.size v2 m (L.take m) OW3.out ⟨u2.heap.size, 0, none⟩ 1 1 [c] rfl (fun j u hu => by rw [add_none]; exact NS3.out.2 j u hu) (by omega) H3.out.size
      have H4 : Hid (Below wz.heap.size wz u4) := H3.out.grown hg H3.out.size (fun k hk => (OW3.out.lt k hk).1)
      have OW4 := Lib.hid ho
      refine region_append_cu (by rfl) _ _ rfl rfl rfl hrun ?_
      clear hrun ho hg
      refine hK.out _ _ H4.out (fun hHeld => ?_)
      clear hK K hHeld
      try simp only [Act.put, List.setIfInBounds_toArray, List.set_cons_zero, List.set_cons_succ]
      refine wpAnyH_ready (rs := [11]) (by kernel_rfl) (by simp) ?_
      refine AllReadyH.cons (o := { dst := some 83, op := Op.call { callee := Callee.builtin Builtin.append, args := #[Operand.tmp 79, Operand.tmp 82], argTypes := #[50, 50] }, type := 50, pos := "ref.go:80", after := #[{ on := 7, ground := Ground.data }, { on := 10, ground := Ground.data }, { on := 7, ground := Ground.chain }], guard := none }) rfl (fun K hK => ?_) (AllReadyH.nil)
      obtain ⟨v5, u5, hrun, ho, hg⟩ := run_append_cu u4 50 wz.heap.size v4 (m + 1) (L.take m ++ [c]) OW4.out ad (L.length - m) (cp - m) (L.drop m) (by first | (simp; done) | (simp; omega)) ((HA7.out.src.kept H4.out).dropAd hm HA7.out.cap HAD.out) (by omega) H4.out.size
      have H5 : Hid (Below wz.heap.size wz u5) := H4.out.grown hg H4.out.size (fun k hk => (OW4.out.lt k hk).1)
      have OF : Hid (World.ownsRow u5 wz.heap.size 35 6 v5 L'.length (L'.flatMap RCut.vals)) := by
        have q := ho
        rw [show L.take m ++ [c] ++ L.drop m = L' by rw [← HLL.out, List.append_assoc]; rfl] at q
        unfold Hid; rw [show L'.length = m + 1 + (L.length - m) by omega]; exact q
      obtain ⟨g', cp', he, k1, k2, k3⟩ := own_src OF.out (by omega)
      subst he
      clear OF ho
      refine region_append_cu (by rfl) _ _ rfl rfl rfl hrun ?_
      have KK := Lib.hid (And.intro k1 (And.intro k2 k3))
      clear hrun hg k1 k2 k3
      refine hK.out _ _ H5.out (fun hHeld => ?_)
      clear hK K hHeld
      try simp only [Act.put, List.setIfInBounds_toArray, List.set_cons_zero, List.set_cons_succ]
      refine wpAnyH_take (i := 12) (oi := { dst := some 5, op := Op.assign (Operand.tmp 83), type := 50, pos := "ref.go:80", after := #[{ on := 11, ground := Ground.data }, { on := 11, ground := Ground.chain }, { on := 0, ground := Ground.phase }, { on := 1, ground := Ground.phase }, { on := 2, ground := Ground.phase }, { on := 3, ground := Ground.phase }, { on := 4, ground := Ground.phase }, { on := 5, ground := Ground.phase }, { on := 6, ground := Ground.phase }, { on := 7, ground := Ground.phase }, { on := 8, ground := Ground.phase }, { on := 9, ground := Ground.phase }, { on := 10, ground := Ground.phase }, { on := 11, ground := Ground.phase }], guard := none }) (v := .slice (some ⟨g', 0, none⟩) L'.length cp') rfl (by kernel_rfl) (by kernel_rfl) (by kernel_rfl) (fun _ _ _ h => HPA.out _ _ _ _ _ h) (Or.inl ⟨by rfl, fun w' hS' => by go_simp⟩) (by assumption) ?_
      simp only [Act.put, List.setIfInBounds_toArray, List.set_cons_zero, List.set_cons_succ]
      refine wpAnyH_done (by kernel_rfl) ?_ _
      exact HQ.out g' cp' L' _ _ _ _ _ _ _ _ _ _ _ _ _ HLL.out KK.out.2.2 KK.out.1 KK.out.2.1 H5.out
    · go_simp
      have H2 : Hid (Below wz.heap.size wz ((wz.drew.alloc (.cells #[] 35)).alloc (.cells #[.int .i64 c.kind, .int .u64 (c.v.a : Int), .int .u64 (c.v.b : Int), .int .u64 (c.v.c : Int), .slice c.A c.v.pre.length c.c, .slice c.B c.v.build.length c.d] 35))) := H1.out.alloc H1.out.size _
      have NS2 : Hid (CuSrc ((wz.drew.alloc (.cells #[] 35)).alloc (.cells #[.int .i64 c.kind, .int .u64 (c.v.a : Int), .int .u64 (c.v.b : Int), .int .u64 (c.v.c : Int), .slice c.A c.v.pre.length c.c, .slice c.B c.v.build.length c.d] 35)) (wz.heap.size + 1) 0 [c]) := by
        have q : CuSrc ((wz.drew.alloc (.cells #[] 35)).alloc (.cells #[.int .i64 c.kind, .int .u64 (c.v.a : Int), .int .u64 (c.v.b : Int), .int .u64 (c.v.c : Int), .slice c.A c.v.pre.length c.c, .slice c.B c.v.build.length c.d] 35)) (wz.drew.alloc (.cells #[] 35)).heap.size 0 [c] := ⟨by simp, fun j u hu => by have := news_new (wz.drew.alloc (.cells #[] 35)) ([c].flatMap RCut.vals) 35 j u hu; rw [add_none] at this; exact this⟩
        try rw [size_alloc] at q
        exact q
      have OW2 := Lib.hid (OW1.out.alloc (.cells #[.int .i64 c.kind, .int .u64 (c.v.a : Int), .int .u64 (c.v.b : Int), .int .u64 (c.v.c : Int), .slice c.A c.v.pre.length c.c, .slice c.B c.v.build.length c.d] 35))
      refine hK.out _ _ H2.out (fun hHeld => ?_)
      clear hK K hHeld
      try simp only [Act.put, List.setIfInBounds_toArray, List.set_cons_zero, List.set_cons_succ]
      refine wpAnyH_ready (rs := [4]) (by kernel_rfl) (by simp) ?_
      refine AllReadyH.cons (o := { dst := some 76, op := Op.call { callee := Callee.builtin Builtin.append, args := #[Operand.tmp 72, Operand.tmp 75], argTypes := #[50, 50] }, type := 50, pos := "ref.go:80", after := #[{ on := 0, ground := Ground.data }, { on := 3, ground := Ground.data }], guard := none }) rfl (fun K hK => ?_) (AllReadyH.nil)
      obtain ⟨v3, u3, hrun, ho, hg⟩ := run_append_cu ((wz.drew.alloc (.cells #[] 35)).alloc (.cells #[.int .i64 c.kind, .int .u64 (c.v.a : Int), .int .u64 (c.v.b : Int), .int .u64 (c.v.c : Int), .slice c.A c.v.pre.length c.c, .slice c.B c.v.build.length c.d] 35)) 50 wz.heap.size (.slice (some ⟨wz.heap.size, 0, none⟩) 0 0) 0 [] OW2.out ⟨b, o, none⟩ m cp (L.take m) (by first | (simp; done) | (simp; omega)) ((HA7.out.src.kept H2.out).take m) (by omega) H2.out.size
      have H3 : Hid (Below wz.heap.size wz u3) := H2.out.grown hg H2.out.size (fun k hk => (OW2.out.lt k hk).1)
      have NS3 : Hid (CuSrc u3 (wz.heap.size + 1) 0 [c]) := NS2.out.grown hg (fun h => by have h2 : wz.heap.size + 1 = wz.heap.size := Option.some.inj h; omega)
      have OW3 := Lib.hid ho
      rw [Nat.zero_add, List.nil_append] at OW3
      refine region_append_cu (by rfl) _ _ rfl rfl rfl hrun ?_
      clear hrun ho hg
      refine hK.out _ _ H3.out (fun hHeld => ?_)
      clear hK K hHeld
      try simp only [Act.put, List.setIfInBounds_toArray, List.set_cons_zero, List.set_cons_succ]
      refine wpAnyH_ready (rs := [7]) (by kernel_rfl) (by simp) ?_
      refine AllReadyH.cons (o := { dst := some 79, op := Op.call { callee := Callee.builtin Builtin.append, args := #[Operand.tmp 76, Operand.tmp 78], argTypes := #[50, 50] }, type := 50, pos := "ref.go:80", after := #[{ on := 4, ground := Ground.data }, { on := 6, ground := Ground.data }, { on := 4, ground := Ground.chain }], guard := none }) rfl (fun K hK => ?_) (AllReadyH.nil)
      obtain ⟨v4, u4, hrun, ho, hg⟩ := run_append_cu u3 50 wz.heap.size v3 m (L.take m) OW3.out ⟨wz.heap.size + 1, 0, none⟩ 1 1 [c] rfl (fun j u hu => by rw [add_none]; exact NS3.out.2 j u hu) (by omega) H3.out.size
      have H4 : Hid (Below wz.heap.size wz u4) := H3.out.grown hg H3.out.size (fun k hk => (OW3.out.lt k hk).1)
      have OW4 := Lib.hid ho
      refine region_append_cu (by rfl) _ _ rfl rfl rfl hrun ?_
      clear hrun ho hg
      refine hK.out _ _ H4.out (fun hHeld => ?_)
      clear hK K hHeld
      try simp only [Act.put, List.setIfInBounds_toArray, List.set_cons_zero, List.set_cons_succ]
      refine wpAnyH_ready (rs := [11]) (by kernel_rfl) (by simp) ?_
      refine AllReadyH.cons (o := { dst := some 83, op := Op.call { callee := Callee.builtin Builtin.append, args := #[Operand.tmp 79, Operand.tmp 82], argTypes := #[50, 50] }, type := 50, pos := "ref.go:80", after := #[{ on := 7, ground := Ground.data }, { on := 10, ground := Ground.data }, { on := 7, ground := Ground.chain }], guard := none }) rfl (fun K hK => ?_) (AllReadyH.nil)
      obtain ⟨v5, u5, hrun, ho, hg⟩ := run_append_cu u4 50 wz.heap.size v4 (m + 1) (L.take m ++ [c]) OW4.out ad (L.length - m) (cp - m) (L.drop m) (by first | (simp; done) | (simp; omega)) ((HA7.out.src.kept H4.out).dropAd hm HA7.out.cap HAD.out) (by omega) H4.out.size
      have H5 : Hid (Below wz.heap.size wz u5) := H4.out.grown hg H4.out.size (fun k hk => (OW4.out.lt k hk).1)
      have OF : Hid (World.ownsRow u5 wz.heap.size 35 6 v5 L'.length (L'.flatMap RCut.vals)) := by
        have q := ho
        rw [show L.take m ++ [c] ++ L.drop m = L' by rw [← HLL.out, List.append_assoc]; rfl] at q
        unfold Hid; rw [show L'.length = m + 1 + (L.length - m) by omega]; exact q
      obtain ⟨g', cp', he, k1, k2, k3⟩ := own_src OF.out (by omega)
      subst he
      clear OF ho
      refine region_append_cu (by rfl) _ _ rfl rfl rfl hrun ?_
      have KK := Lib.hid (And.intro k1 (And.intro k2 k3))
      clear hrun hg k1 k2 k3
      refine hK.out _ _ H5.out (fun hHeld => ?_)
      clear hK K hHeld
      try simp only [Act.put, List.setIfInBounds_toArray, List.set_cons_zero, List.set_cons_succ]
      refine wpAnyH_take (i := 12) (oi := { dst := some 5, op := Op.assign (Operand.tmp 83), type := 50, pos := "ref.go:80", after := #[{ on := 11, ground := Ground.data }, { on := 11, ground := Ground.chain }, { on := 0, ground := Ground.phase }, { on := 1, ground := Ground.phase }, { on := 2, ground := Ground.phase }, { on := 3, ground := Ground.phase }, { on := 4, ground := Ground.phase }, { on := 5, ground := Ground.phase }, { on := 6, ground := Ground.phase }, { on := 7, ground := Ground.phase }, { on := 8, ground := Ground.phase }, { on := 9, ground := Ground.phase }, { on := 10, ground := Ground.phase }, { on := 11, ground := Ground.phase }], guard := none }) (v := .slice (some ⟨g', 0, none⟩) L'.length cp') rfl (by kernel_rfl) (by kernel_rfl) (by kernel_rfl) (fun _ _ _ h => HPA.out _ _ _ _ _ h) (Or.inl ⟨by rfl, fun w' hS' => by go_simp⟩) (by assumption) ?_
      simp only [Act.put, List.setIfInBounds_toArray, List.set_cons_zero, List.set_cons_succ]
      refine wpAnyH_done (by kernel_rfl) ?_ _
      exact HQ.out g' cp' L' _ _ _ _ _ _ _ _ _ _ _ _ _ HLL.out KK.out.2.2 KK.out.1 KK.out.2.1 H5.out
  · go_simp
    have H1 : Hid (Below wz.heap.size wz (wz.drew.alloc (.cells #[.int .i64 c.kind, .int .u64 (c.v.a : Int), .int .u64 (c.v.b : Int), .int .u64 (c.v.c : Int), .slice c.A c.v.pre.length c.c, .slice c.B c.v.build.length c.d] 35))) := H0.out.alloc H0.out.size _
    have NS1 : Hid (CuSrc (wz.drew.alloc (.cells #[.int .i64 c.kind, .int .u64 (c.v.a : Int), .int .u64 (c.v.b : Int), .int .u64 (c.v.c : Int), .slice c.A c.v.pre.length c.c, .slice c.B c.v.build.length c.d] 35)) (wz.heap.size) 0 [c]) := by
      have q : CuSrc (wz.drew.alloc (.cells #[.int .i64 c.kind, .int .u64 (c.v.a : Int), .int .u64 (c.v.b : Int), .int .u64 (c.v.c : Int), .slice c.A c.v.pre.length c.c, .slice c.B c.v.build.length c.d] 35)) wz.drew.heap.size 0 [c] := ⟨by simp, fun j u hu => by have := news_new wz.drew ([c].flatMap RCut.vals) 35 j u hu; rw [add_none] at this; exact this⟩
      try rw [size_alloc] at q
      exact q
    refine hK.out _ _ H1.out (fun hHeld => ?_)
    clear hK K hHeld
    try simp only [Act.put, List.setIfInBounds_toArray, List.set_cons_zero, List.set_cons_succ]
    refine wpAnyH_ready (rs := [0]) (by kernel_rfl) (by simp) ?_
    refine AllReadyH.cons (o := { dst := some 72, op := Op.buildSlice 50 0 #[], type := 50, pos := "ref.go:80", after := #[], guard := none }) rfl (fun K hK => ?_) (AllReadyH.nil)
    go_simp
    have H2 : Hid (Below wz.heap.size wz ((wz.drew.alloc (.cells #[.int .i64 c.kind, .int .u64 (c.v.a : Int), .int .u64 (c.v.b : Int), .int .u64 (c.v.c : Int), .slice c.A c.v.pre.length c.c, .slice c.B c.v.build.length c.d] 35)).alloc (.cells #[] 35))) := H1.out.alloc H1.out.size _
    have OW2 : Hid (World.ownsRow ((wz.drew.alloc (.cells #[.int .i64 c.kind, .int .u64 (c.v.a : Int), .int .u64 (c.v.b : Int), .int .u64 (c.v.c : Int), .slice c.A c.v.pre.length c.c, .slice c.B c.v.build.length c.d] 35)).alloc (.cells #[] 35)) wz.heap.size 35 6 (.slice (some ⟨wz.heap.size + 1, 0, none⟩) 0 0) 0 (([] : List RCut).flatMap RCut.vals)) := by
      have q := World.ownsRow_made (base := wz.heap.size) (e := 35) (size := 6) (wz.drew.alloc (.cells #[.int .i64 c.kind, .int .u64 (c.v.a : Int), .int .u64 (c.v.b : Int), .int .u64 (c.v.c : Int), .slice c.A c.v.pre.length c.c, .slice c.B c.v.build.length c.d] 35)) #[] 0 H1.out.size (by unfold maxLen; omega) rfl
      try rw [size_alloc] at q
      exact q
    have NS2 : Hid (CuSrc ((wz.drew.alloc (.cells #[.int .i64 c.kind, .int .u64 (c.v.a : Int), .int .u64 (c.v.b : Int), .int .u64 (c.v.c : Int), .slice c.A c.v.pre.length c.c, .slice c.B c.v.build.length c.d] 35)).alloc (.cells #[] 35)) (wz.heap.size) 0 [c]) := NS1.out.kept ((Below.refl _ _).alloc (Nat.le_refl _) _)
    refine hK.out _ _ H2.out (fun hHeld => ?_)
    clear hK K hHeld
    try simp only [Act.put, List.setIfInBounds_toArray, List.set_cons_zero, List.set_cons_succ]
    refine wpAnyH_ready (rs := [4]) (by kernel_rfl) (by simp) ?_
    refine AllReadyH.cons (o := { dst := some 76, op := Op.call { callee := Callee.builtin Builtin.append, args := #[Operand.tmp 72, Operand.tmp 75], argTypes := #[50, 50] }, type := 50, pos := "ref.go:80", after := #[{ on := 0, ground := Ground.data }, { on := 3, ground := Ground.data }], guard := none }) rfl (fun K hK => ?_) (AllReadyH.nil)
    obtain ⟨v3, u3, hrun, ho, hg⟩ := run_append_cu ((wz.drew.alloc (.cells #[.int .i64 c.kind, .int .u64 (c.v.a : Int), .int .u64 (c.v.b : Int), .int .u64 (c.v.c : Int), .slice c.A c.v.pre.length c.c, .slice c.B c.v.build.length c.d] 35)).alloc (.cells #[] 35)) 50 wz.heap.size (.slice (some ⟨wz.heap.size + 1, 0, none⟩) 0 0) 0 [] OW2.out ⟨b, o, none⟩ m cp (L.take m) (by first | (simp; done) | (simp; omega)) ((HA7.out.src.kept H2.out).take m) (by omega) H2.out.size
    have H3 : Hid (Below wz.heap.size wz u3) := H2.out.grown hg H2.out.size (fun k hk => (OW2.out.lt k hk).1)
    have NS3 : Hid (CuSrc u3 (wz.heap.size) 0 [c]) := NS2.out.grown hg (fun h => by have h2 : wz.heap.size = wz.heap.size + 1 := Option.some.inj h; omega)
    have OW3 := Lib.hid ho
    rw [Nat.zero_add, List.nil_append] at OW3
    refine region_append_cu (by rfl) _ _ rfl rfl rfl hrun ?_
    clear hrun ho hg
    refine hK.out _ _ H3.out (fun hHeld => ?_)
    clear hK K hHeld
    try simp only [Act.put, List.setIfInBounds_toArray, List.set_cons_zero, List.set_cons_succ]
    refine wpAnyH_ready (rs := [7]) (by kernel_rfl) (by simp) ?_
    refine AllReadyH.cons (o := { dst := some 79, op := Op.call { callee := Callee.builtin Builtin.append, args := #[Operand.tmp 76, Operand.tmp 78], argTypes := #[50, 50] }, type := 50, pos := "ref.go:80", after := #[{ on := 4, ground := Ground.data }, { on := 6, ground := Ground.data }, { on := 4, ground := Ground.chain }], guard := none }) rfl (fun K hK => ?_) (AllReadyH.nil)
    obtain ⟨v4, u4, hrun, ho, hg⟩ := run_append_cu u3 50 wz.heap.size v3 m (L.take m) OW3.out ⟨wz.heap.size, 0, none⟩ 1 1 [c] rfl (fun j u hu => by rw [add_none]; exact NS3.out.2 j u hu) (by omega) H3.out.size
    have H4 : Hid (Below wz.heap.size wz u4) := H3.out.grown hg H3.out.size (fun k hk => (OW3.out.lt k hk).1)
    have OW4 := Lib.hid ho
    refine region_append_cu (by rfl) _ _ rfl rfl rfl hrun ?_
    clear hrun ho hg
    refine hK.out _ _ H4.out (fun hHeld => ?_)
    clear hK K hHeld
    try simp only [Act.put, List.setIfInBounds_toArray, List.set_cons_zero, List.set_cons_succ]
    refine wpAnyH_ready (rs := [11]) (by kernel_rfl) (by simp) ?_
    refine AllReadyH.cons (o := { dst := some 83, op := Op.call { callee := Callee.builtin Builtin.append, args := #[Operand.tmp 79, Operand.tmp 82], argTypes := #[50, 50] }, type := 50, pos := "ref.go:80", after := #[{ on := 7, ground := Ground.data }, { on := 10, ground := Ground.data }, { on := 7, ground := Ground.chain }], guard := none }) rfl (fun K hK => ?_) (AllReadyH.nil)
    obtain ⟨v5, u5, hrun, ho, hg⟩ := run_append_cu u4 50 wz.heap.size v4 (m + 1) (L.take m ++ [c]) OW4.out ad (L.length - m) (cp - m) (L.drop m) (by first | (simp; done) | (simp; omega)) ((HA7.out.src.kept H4.out).dropAd hm HA7.out.cap HAD.out) (by omega) H4.out.size
    have H5 : Hid (Below wz.heap.size wz u5) := H4.out.grown hg H4.out.size (fun k hk => (OW4.out.lt k hk).1)
    have OF : Hid (World.ownsRow u5 wz.heap.size 35 6 v5 L'.length (L'.flatMap RCut.vals)) := by
      have q := ho
      rw [show L.take m ++ [c] ++ L.drop m = L' by rw [← HLL.out, List.append_assoc]; rfl] at q
      unfold Hid; rw [show L'.length = m + 1 + (L.length - m) by omega]; exact q
    obtain ⟨g', cp', he, k1, k2, k3⟩ := own_src OF.out (by omega)
    subst he
    clear OF ho
    refine region_append_cu (by rfl) _ _ rfl rfl rfl hrun ?_
    have KK := Lib.hid (And.intro k1 (And.intro k2 k3))
    clear hrun hg k1 k2 k3
    refine hK.out _ _ H5.out (fun hHeld => ?_)
    clear hK K hHeld
    try simp only [Act.put, List.setIfInBounds_toArray, List.set_cons_zero, List.set_cons_succ]
    refine wpAnyH_take (i := 12) (oi := { dst := some 5, op := Op.assign (Operand.tmp 83), type := 50, pos := "ref.go:80", after := #[{ on := 11, ground := Ground.data }, { on := 11, ground := Ground.chain }, { on := 0, ground := Ground.phase }, { on := 1, ground := Ground.phase }, { on := 2, ground := Ground.phase }, { on := 3, ground := Ground.phase }, { on := 4, ground := Ground.phase }, { on := 5, ground := Ground.phase }, { on := 6, ground := Ground.phase }, { on := 7, ground := Ground.phase }, { on := 8, ground := Ground.phase }, { on := 9, ground := Ground.phase }, { on := 10, ground := Ground.phase }, { on := 11, ground := Ground.phase }], guard := none }) (v := .slice (some ⟨g', 0, none⟩) L'.length cp') rfl (by kernel_rfl) (by kernel_rfl) (by kernel_rfl) (fun _ _ _ h => HPA.out _ _ _ _ _ h) (Or.inl ⟨by rfl, fun w' hS' => by go_simp⟩) (by assumption) ?_
    simp only [Act.put, List.setIfInBounds_toArray, List.set_cons_zero, List.set_cons_succ]
    refine wpAnyH_done (by kernel_rfl) ?_ _
    exact HQ.out g' cp' L' _ _ _ _ _ _ _ _ _ _ _ _ _ HLL.out KK.out.2.2 KK.out.1 KK.out.2.1 H5.out
end Go.Proofs.YtdbdeadcffpbfaaGreatDoor.Span

namespace Go.Proofs.YtdbdeadcffpbfaaGreatDoor.Span
open Go.RowKit Num Ident Semver Prec

set_option maxRecDepth 100000 in
set_option maxHeartbeats 25600000 in
theorem cuts_any (A : Option Addr) (n c0 : Nat) (l : List RSp) (B : Option Addr) (p d0 : Nat) (r : List RSp) (w : World) (ha : SpSrc w A n c0 l) (hb : SpSrc w B p d0 r) (hn : n ≤ 1000) (hp : p ≤ 1000) :
    Calls Tryz.prog 23 #[.slice A n c0, .slice B p d0] w (CutsPost w l r) := by
  have HBa : Hid (Below w.heap.size w ((w.alloc (.cells #[.int .i64 0, .int .u64 0, .int .u64 0, .int .u64 0, .slice none 0 0, .slice none 0 0, .int .i64 3, .int .u64 0, .int .u64 0, .int .u64 0, .slice none 0 0, .slice none 0 0] 35)).alloc (.cells #[] 37))) := ((Below.refl _ _).alloc (Nat.le_refl _) _).alloc (by simp) _
  have HS1 : Hid (SpSrc ((w.alloc (.cells #[.int .i64 0, .int .u64 0, .int .u64 0, .int .u64 0, .slice none 0 0, .slice none 0 0, .int .i64 3, .int .u64 0, .int .u64 0, .int .u64 0, .slice none 0 0, .slice none 0 0] 35)).alloc (.cells #[] 37)) A n c0 l) := ⟨ha.row.kept HBa.out, ha.nil⟩
  have HQ0 := Lib.hid hb
  have HZA : Hid (w.heap.size + 1 ≤ (((w.alloc (.cells #[.int .i64 0, .int .u64 0, .int .u64 0, .int .u64 0, .slice none 0 0, .slice none 0 0, .int .i64 3, .int .u64 0, .int .u64 0, .int .u64 0, .slice none 0 0, .slice none 0 0] 35)).alloc (.cells #[] 37))).heap.size) := by unfold Hid; simp
  have HLI : Hid (∀ s ∈ l ++ r, LiesS w s) := fun s hs => (List.mem_append.1 hs).elim (ha.row.2.1 s) (hb.row.2.1 s)
  have HLN : Hid ((l ++ r).length = n + p) := by unfold Hid; rw [List.length_append, ha.row.1, hb.row.1]
  have OWN : Hid (World.ownsRow ((w.alloc (.cells #[.int .i64 0, .int .u64 0, .int .u64 0, .int .u64 0, .slice none 0 0, .slice none 0 0, .int .i64 3, .int .u64 0, .int .u64 0, .int .u64 0, .slice none 0 0, .slice none 0 0] 35)).alloc (.cells #[] 37)) (w.heap.size + 1) 37 12 (.slice (some ⟨w.heap.size + 1, 0, none⟩) 0 0) 0 []) := by
    have q := World.ownsRow_made (base := w.heap.size + 1) (e := 37) (size := 12) (w.alloc (.cells #[.int .i64 0, .int .u64 0, .int .u64 0, .int .u64 0, .slice none 0 0, .slice none 0 0, .int .i64 3, .int .u64 0, .int .u64 0, .int .u64 0, .slice none 0 0, .slice none 0 0] 35)) #[] 0 (by simp) (by unfold maxLen; omega) rfl
    rw [size_alloc] at q; exact q
  have SRC : Hid (CuSrc ((w.alloc (.cells #[.int .i64 0, .int .u64 0, .int .u64 0, .int .u64 0, .slice none 0 0, .slice none 0 0, .int .i64 3, .int .u64 0, .int .u64 0, .int .u64 0, .slice none 0 0, .slice none 0 0] 35)).alloc (.cells #[] 37)) w.heap.size 0 [rlow, rhigh]) := by
    have q : CuSrc (w.alloc (.cells #[.int .i64 0, .int .u64 0, .int .u64 0, .int .u64 0, .slice none 0 0, .slice none 0 0, .int .i64 3, .int .u64 0, .int .u64 0, .int .u64 0, .slice none 0 0, .slice none 0 0] 35)) w.heap.size 0 [rlow, rhigh] := ⟨by simp, fun j u hu => by have := news_new w ([rlow, rhigh].flatMap RCut.vals) 35 j u hu; rw [add_none] at this; exact this⟩
    exact q.kept ((Below.refl _ _).alloc (Nat.le_refl _) _)
  clear ha hb
  go_enter Tryz.func23, Tryz.ntmps23
  go_wp2_with (first
    | (at_builtin; refine wpList_append_sps _ rfl _ _ rfl (w.heap.size + 1) _ 0 [] rfl OWN.out A n c0 l rfl HS1.out (by omega) (by simp) ?_; intro v4 w4 ho4 hb4; have O4 := Lib.hid ho4; rw [Nat.zero_add, List.nil_append] at O4; have SRC4 := Lib.hid (SRC.out.keptB (Nat.lt_succ_self _) hb4); have B4 := Lib.hid (HBa.out.trans (hb4.mono (Nat.le_succ _))); have HS4 := Lib.hid (SpSrc.mk (HQ0.out.row.kept B4.out) HQ0.out.nil); have hz4 := Nat.le_trans HZA.out hb4.size; clear ho4 hb4 OWN SRC HS1)
    | (at_builtin; refine wpList_append_sps _ rfl _ _ rfl (w.heap.size + 1) _ n l rfl O4.out B p d0 r rfl HS4.out (by omega) hz4 ?_; intro v5 w5 ho5 hb5; have O5 := Lib.hid ho5; have SRC5 := Lib.hid (SRC4.out.keptB (Nat.lt_succ_self _) hb5); have HBL := Lib.hid (B4.out.trans (hb5.mono (Nat.le_succ _))); clear ho5 hb5 O4 SRC4 HS4 hz4 B4)
    | fail)
  obtain ⟨A6, c6, rfl, hc6, _, hcell6⟩ := own_cells svals_len O5.out HLN.out
  have HALL : Hid (SpRow w5 A6 (n + p) (l ++ r)) := ⟨HLN.out, fun s hs => (HLI.out s hs).kept HBL.out, fun h0 => by obtain ⟨g, e, _, h2, _, h3⟩ := hcell6 h0; exact ⟨g, 0, e, h2, h3⟩⟩
  clear O5 hcell6
  obtain ⟨all, hall⟩ : ∃ all, l ++ r = all := ⟨_, rfl⟩
  obtain ⟨N, hN⟩ : ∃ N, n + p = N := ⟨_, rfl⟩
  have HAL := Lib.hid hall
  have HNP := Lib.hid hN
  have hN2 : N ≤ 2000 := by omega
  rw [hall, hN] at HALL
  rw [hall] at HLI
  rw [hall, hN] at HLN
  rw [hN]
  clear hall hN hn hp
  go_wp2
  go_loopw [5, 7] (fun v i W => CutsJ1 w w5 N all v i W) (fun _ i _ => N - (intOf i).toNat)
  case atStart =>
    exact ⟨0, w.heap.size, 0, 2, [rlow, rhigh], by omega, rfl, rfl, ⟨SRC5.out, (fun x hx => by simp only [List.mem_cons, List.mem_nil_iff, or_false] at hx; rcases hx with rfl | rfl; exact Lies.low _; exact Lies.high _), Rise.start, Nat.le_refl _, by unfold maxLen; omega, Below.refl _ _⟩, HitsAll.nil _, by simp⟩
  case round =>
    obtain ⟨k, b, o, cp, L, hk, rfl, rfl, ha1, hh1, hlen⟩ := hrel
    have HA := Lib.hid ha1
    have HH := Lib.hid hh1
    clear ha1 hh1
    by_cases hlt : k < N
    · go_wp2
      go_loopw [5, 8] (fun v i W => CutsJ2 w w5 all k v i W) (fun _ i _ => 2 - (intOf i).toNat)
      case atStart => exact ⟨0, b, o, cp, L, by omega, rfl, rfl, HA.out, HH.out, ⟨fun h => by omega, fun h => by omega⟩, by omega⟩
      case round =>
        clear HA HH hlen
        obtain ⟨q, b, o, cp, L, hq, rfl, rfl, ha2, hh2, ht2, hlen⟩ := hrel
        have HA := Lib.hid ha2
        have HH := Lib.hid hh2
        have HT := Lib.hid ht2
        clear ha2 hh2 ht2
        by_cases hq2 : q < 2
        · have HR1 := Lib.hid (HALL.out.kept HA.out.bel)
          obtain ⟨ba, oa, rfl, hba, hca⟩ := HR1.out.2.2 (by omega)
          have C1 : Hid (SpAt wr ba (oa + k * 12) (all.getD k default)) := hca k hlt
          have LS : Hid (LiesS w (all.getD k default)) := HLI.out _ (getS_mem (by rw [HLN.out]; exact hlt))
          obtain ⟨s, hs⟩ : ∃ s, all.getD k default = s := ⟨_, rfl⟩
          rw [hs] at C1 LS
          obtain ⟨x0, x1, x2, x3, x4, x5, x6, x7, x8, x9, x10, x11⟩ := C1.out.cells
          clear hca C1 HR1
          rcases (show q = 0 ∨ q = 1 by omega) with rfl | rfl
          · have HNX : Hid (∀ M : List Cut, (∀ x ∈ L.map RCut.cut, x ∈ M) → (right s.lo.cut = true → Hits M s.lo.cut) → Two M (all.getD k default).sp 1) := fun M h1 h2 => by rw [hs]; exact ⟨fun _ => h2, fun h => by omega⟩
            have LC := Lib.hid LS.out.lo
            clear hs LS
            go_upto_region 12 with (fail)
            clear x0 x1 x2 x3 x4 x5 x6 x7 x8 x9 x10 x11
            generalize s.lo = c at HNX LC ⊢
            have A1 : Hid (Below wr.heap.size wr (wr.alloc (.cells #[.int .i64 c.kind, .int .u64 (c.v.a : Int), .int .u64 (c.v.b : Int), .int .u64 (c.v.c : Int), .slice c.A c.v.pre.length c.c, .slice c.B c.v.build.length c.d] 35))) := (Below.refl _ _).alloc (Nat.le_refl _) _
            have K1 : Hid (At6B (wr.alloc (.cells #[.int .i64 c.kind, .int .u64 (c.v.a : Int), .int .u64 (c.v.b : Int), .int .u64 (c.v.c : Int), .slice c.A c.v.pre.length c.c, .slice c.B c.v.build.length c.d] 35)) wr.heap.size (.int .i64 c.kind) (.int .u64 (c.v.a : Int)) (.int .u64 (c.v.b : Int)) (.int .u64 (c.v.c : Int)) (.slice c.A c.v.pre.length c.c) (.slice c.B c.v.build.length c.d)) := At6B.new wr _ _ _ _ _ _ _
            generalize (wr.alloc (.cells #[.int .i64 c.kind, .int .u64 (c.v.a : Int), .int .u64 (c.v.b : Int), .int .u64 (c.v.c : Int), .slice c.A c.v.pre.length c.c, .slice c.B c.v.build.length c.d] 35)) = w1 at A1 K1 ⊢
            have HA1 := Lib.hid (HA.out.kept A1.out)
            obtain ⟨pc, hpc0⟩ : ∃ pc, wr.heap.size = pc := ⟨_, rfl⟩
            rw [hpc0] at K1 ⊢
            clear hpc0 A1 HA
            have LC1 := Lib.hid (LC.out.kept (HBL.out.trans (HA1.out.bel.mono HBL.out.size)))
            obtain ⟨_, _, z0, z1, z2, z3, z4, z5⟩ := K1.out
            go_wp2_with fail
            refine (refRight_any c _ LC1.out).mono ?_
            rintro e w2 ⟨rfl, hb⟩
            have HA2 := Lib.hid (HA1.out.kept hb)
            have K2 := Lib.hid (K1.out.kept hb K1.out.1)
            clear hb HA1 K1 LC1 z0 z1 z2 z3 z4 z5
            cases g1 : right c.cut
            · have HT2 := Lib.hid (HNX.out _ (fun x h => h) (fun h => by rw [g1] at h; cases h))
              clear g1
              go_wp2
              exact ⟨⟨1, b, o, cp, L, by omega, by go_num, rfl, HA2.out, HH.out, HT2.out, by omega⟩, by simp [intOf]⟩
            have G1 := Lib.hid g1
            clear g1
            go_wp2
            go_loopw [10] (fun i W => ∃ m : Nat, m ≤ L.length ∧ i = .int .i64 m ∧ Hid (∀ j, j < m → stand (cutAt (L.map RCut.cut) j) c.cut < 0) ∧ Hid (Below w2.heap.size w2 W)) (fun i _ => L.length - (intOf i).toNat)
            case atStart => exact ⟨0, Nat.zero_le _, rfl, (fun j hj => by omega), Below.refl _ _⟩
            case round =>
              obtain ⟨m, hm, rfl, HM, HW⟩ := hrel
              have HA3 := Lib.hid (HA2.out.kept HW.out)
              have K3 := Lib.hid (K2.out.kept HW.out K2.out.1)
              have LCW := Lib.hid LC.out
              replace LC := Lib.hid (LC.out.kept (HBL.out.trans (HA3.out.bel.mono HBL.out.size)))
              have hlm : L.length ≤ 9223372036854775807 := by omega
              have hbl : b < wr.heap.size := HA3.out.src.1
              obtain ⟨hpc, _, z0, z1, z2, z3, z4, z5⟩ := K3.out
              have HBW : Hid (Below wr.heap.size wr wr) := Below.refl _ _
              by_cases hml : m < L.length
              · have LY : Hid (Lies wr (L.getD m default)) := (HA3.out.lies _ (getC_mem hml)).kept (HBL.out.trans (HA3.out.bel.mono HBL.out.size))
                have RY : Hid (right (L.getD m default).cut = true) := HA3.out.rise.right _ (List.mem_map_of_mem (getC_mem hml))
                have HE := Lib.hid (cut_at_map L m)
                obtain ⟨y0, y1, y2, y3, y4, y5⟩ := HA3.out.src.at hml
                generalize L.getD m default = y at LY RY HE y0 y1 y2 y3 y4 y5
                obtain ⟨d, hd⟩ : ∃ d, cmpC y.cut c.cut = d := ⟨_, rfl⟩
                have HD := Lib.hid hd
                have HS : Hid (stand (cutAt (L.map RCut.cut) m) c.cut = d) := by unfold Hid; rw [HE.out, ← cmpC_right RY.out G1.out]; exact hd
                clear hd HE RY
                go_upto_region 14 with (fail)
                by_cases hd1 : d < 0
                · have HM2 : Hid (∀ j, j < m + 1 → stand (cutAt (L.map RCut.cut) j) c.cut < 0) := fun j hj => by
                    rcases Nat.lt_or_ge j m with g | g
                    · exact HM.out j g
                    · rw [show j = m by omega, HS.out]; exact hd1
                  replace HBW := Lib.hid HBW.out.drew
                  refine wp_region_held_drew (S := fun w' => Below wr.heap.size wr w') (by kernel_rfl) HBW.out (fun hHeld => ?_)
                  refine wpAnyH_take (i := 0) (oi := { dst := some 44, op := Op.move (Operand.tmp 10), type := 3, pos := "ref.go:74", after := #[], guard := none }) (v := .int .i64 (m : Int)) rfl (by kernel_rfl) (by kernel_rfl) (by kernel_rfl) (fun _ _ _ h => h) (Or.inl ⟨by rfl, fun w' hS' => by go_simp⟩) (by assumption) ?_
                  simp only [Act.put, List.setIfInBounds_toArray, List.set_cons_zero, List.set_cons_succ]
                  refine wpAnyH_take (i := 1) (oi := { dst := some 45, op := Op.move (Operand.tmp 5), type := 50, pos := "ref.go:74", after := #[], guard := none }) (v := .slice (some ⟨b, o, none⟩) L.length cp) rfl (by kernel_rfl) (by kernel_rfl) (by kernel_rfl) (fun _ _ _ h => h) (Or.inl ⟨by rfl, fun w' hS' => by go_simp⟩) (by assumption) ?_
                  simp only [Act.put, List.setIfInBounds_toArray, List.set_cons_zero, List.set_cons_succ]
                  refine wpAnyH_take (i := 2) (oi := { dst := some 46, op := Op.call { callee := Callee.builtin Builtin.len, args := #[Operand.tmp 45], argTypes := #[50] }, type := 3, pos := "ref.go:74", after := #[{ on := 1, ground := Ground.data }], guard := none }) (v := .int .i64 (L.length : Int)) rfl (by kernel_rfl) (by kernel_rfl) (by kernel_rfl) (fun _ _ _ h => h) (Or.inl ⟨by rfl, fun w' hS' => by go_simp⟩) (by assumption) ?_
                  simp only [Act.put, List.setIfInBounds_toArray, List.set_cons_zero, List.set_cons_succ]
                  refine wpAnyH_take (i := 3) (oi := { dst := some 47, op := Op.binOp BinOp.lss 3 (Operand.tmp 44) (Operand.tmp 46) 3, type := 4, pos := "ref.go:74", after := #[{ on := 0, ground := Ground.data }, { on := 2, ground := Ground.data }], guard := none }) (v := .bool true) rfl (by kernel_rfl) (by kernel_rfl) (by kernel_rfl) (fun _ _ _ h => h) (Or.inl ⟨by rfl, fun w' hS' => by first | (go_simp; done) | (go_simp; omega)⟩) (by assumption) ?_
                  simp only [Act.put, List.setIfInBounds_toArray, List.set_cons_zero, List.set_cons_succ]
                  refine wpAnyH_take (i := 4) (oi := { dst := some 48, op := Op.move (Operand.tmp 47), type := 4, pos := "ref.go:74", after := #[{ on := 3, ground := Ground.data }], guard := none }) (v := .bool true) rfl (by kernel_rfl) (by kernel_rfl) (by kernel_rfl) (fun _ _ _ h => h) (Or.inl ⟨by rfl, fun w' hS' => by go_simp⟩) (by assumption) ?_
                  simp only [Act.put, List.setIfInBounds_toArray, List.set_cons_zero, List.set_cons_succ]
                  refine wpAnyH_take (i := 5) (oi := { dst := some 49, op := Op.move (Operand.tmp 5), type := 50, pos := "ref.go:74", after := #[{ on := 4, ground := Ground.guard }], guard := some (4, true) }) (v := .slice (some ⟨b, o, none⟩) L.length cp) rfl (by kernel_rfl) (by kernel_rfl) (by kernel_rfl) (fun _ _ _ h => h) (Or.inl ⟨by rfl, fun w' hS' => by go_simp⟩) (by assumption) ?_
                  simp only [Act.put, List.setIfInBounds_toArray, List.set_cons_zero, List.set_cons_succ]
                  refine wpAnyH_take (i := 6) (oi := { dst := some 50, op := Op.move (Operand.tmp 10), type := 3, pos := "ref.go:74", after := #[{ on := 4, ground := Ground.guard }], guard := some (4, true) }) (v := .int .i64 (m : Int)) rfl (by kernel_rfl) (by kernel_rfl) (by kernel_rfl) (fun _ _ _ h => h) (Or.inl ⟨by rfl, fun w' hS' => by go_simp⟩) (by assumption) ?_
                  simp only [Act.put, List.setIfInBounds_toArray, List.set_cons_zero, List.set_cons_succ]
                  refine wpAnyH_take (i := 7) (oi := { dst := some 51, op := Op.indexAddr 50 (Operand.tmp 49) (Operand.tmp 50), type := 0, pos := "ref.go:74", after := #[{ on := 5, ground := Ground.data }, { on := 6, ground := Ground.data }, { on := 4, ground := Ground.guard }], guard := some (4, true) }) (v := .pointer (some ⟨b, o + m * 6, none⟩)) rfl (by kernel_rfl) (by kernel_rfl) (by kernel_rfl) (fun _ _ _ h => h) (Or.inl ⟨by rfl, fun w' hS' => by go_simp⟩) (by assumption) ?_
                  simp only [Act.put, List.setIfInBounds_toArray, List.set_cons_zero, List.set_cons_succ]
                  refine wpAnyH_take (i := 8) (oi := { dst := some 52, op := Op.load 35 (Operand.tmp 51), type := 35, pos := "ref.go:74", after := #[{ on := 7, ground := Ground.data }, { on := 4, ground := Ground.guard }], guard := some (4, true) }) (v := .agg #[.int .i64 y.kind, .int .u64 (y.v.a : Int), .int .u64 (y.v.b : Int), .int .u64 (y.v.c : Int), .slice y.A y.v.pre.length y.c, .slice y.B y.v.build.length y.d]) rfl (by kernel_rfl) (by kernel_rfl) (by kernel_rfl) (fun _ _ _ h => h) (Or.inl ⟨by rfl, fun w' hS' => by have q0 := (hS'.cell (p := ⟨b, o + m * 6, none⟩) hbl).trans y0; have q1 := (hS'.cell (p := ⟨b, o + m * 6 + 1, none⟩) hbl).trans y1; have q2 := (hS'.cell (p := ⟨b, o + m * 6 + 2, none⟩) hbl).trans y2; have q3 := (hS'.cell (p := ⟨b, o + m * 6 + 3, none⟩) hbl).trans y3; have q4 := (hS'.cell (p := ⟨b, o + m * 6 + 4, none⟩) hbl).trans y4; have q5 := (hS'.cell (p := ⟨b, o + m * 6 + 5, none⟩) hbl).trans y5; go_simp⟩) (by assumption) ?_
                  simp only [Act.put, List.setIfInBounds_toArray, List.set_cons_zero, List.set_cons_succ]
                  refine wpAnyH_take (i := 9) (oi := { dst := some 53, op := Op.load 35 (Operand.tmp 9), type := 35, pos := "ref.go:74", after := #[{ on := 4, ground := Ground.guard }], guard := some (4, true) }) (v := .agg #[.int .i64 c.kind, .int .u64 (c.v.a : Int), .int .u64 (c.v.b : Int), .int .u64 (c.v.c : Int), .slice c.A c.v.pre.length c.c, .slice c.B c.v.build.length c.d]) rfl (by kernel_rfl) (by kernel_rfl) (by kernel_rfl) (fun _ _ _ h => h) (Or.inl ⟨by rfl, fun w' hS' => by have q0 := (hS'.cell (p := ⟨pc, 0, none⟩) hpc).trans z0; have q1 := (hS'.cell (p := ⟨pc, 1, none⟩) hpc).trans z1; have q2 := (hS'.cell (p := ⟨pc, 2, none⟩) hpc).trans z2; have q3 := (hS'.cell (p := ⟨pc, 3, none⟩) hpc).trans z3; have q4 := (hS'.cell (p := ⟨pc, 4, none⟩) hpc).trans z4; have q5 := (hS'.cell (p := ⟨pc, 5, none⟩) hpc).trans z5; go_simp⟩) (by assumption) ?_
                  simp only [Act.put, List.setIfInBounds_toArray, List.set_cons_zero, List.set_cons_succ]
                  refine wpAnyH_ready (rs := [10]) (by kernel_rfl) (by simp) ?_
                  refine AllReadyH.cons (o := { dst := some 54, op := Op.call { callee := Callee.value (Operand.func 19), args := #[Operand.tmp 52, Operand.tmp 53], argTypes := #[35, 35] }, type := 3, pos := "ref.go:74", after := #[{ on := 8, ground := Ground.data }, { on := 9, ground := Ground.data }, { on := 4, ground := Ground.chain }, { on := 4, ground := Ground.guard }], guard := some (4, true) }) rfl (fun K hK => ?_) AllReadyH.nil
                  go_simp
                  refine (refCompareC_any y c _ (LY.out.kept HBW.out) (LC.out.kept HBW.out)).mono ?_
                  rintro e wf1 ⟨he, hb⟩
                  rw [HD.out] at he
                  subst he
                  replace HBW := Lib.hid (HBW.out.trans (hb.mono HBW.out.size))
                  clear hb hHeld
                  refine hK.out _ _ HBW.out (fun hHeld => ?_)
                  clear hK K
                  try simp only [Act.put, List.setIfInBounds_toArray, List.set_cons_zero, List.set_cons_succ]
                  refine wpAnyH_take (i := 11) (oi := { dst := some 55, op := Op.binOp BinOp.lss 3 (Operand.tmp 54) (Operand.const (Value.int IntKind.i64 0)) 3, type := 4, pos := "ref.go:74", after := #[{ on := 10, ground := Ground.data }, { on := 4, ground := Ground.guard }], guard := some (4, true) }) (v := .bool true) rfl (by kernel_rfl) (by kernel_rfl) (by kernel_rfl) (fun _ _ _ h => h) (Or.inl ⟨by rfl, fun w' hS' => by first | (go_simp; done) | (go_simp; omega)⟩) (by assumption) ?_
                  simp only [Act.put, List.setIfInBounds_toArray, List.set_cons_zero, List.set_cons_succ]
                  refine wpAnyH_take (i := 12) (oi := { dst := some 56, op := Op.pick (Operand.tmp 48) (Operand.tmp 55) (Operand.const (Value.bool false)), type := 4, pos := "ref.go:74", after := #[{ on := 4, ground := Ground.data }, { on := 11, ground := Ground.data }], guard := none }) (v := .bool true) rfl (by kernel_rfl) (by kernel_rfl) (by kernel_rfl) (fun _ _ _ h => h) (Or.inl ⟨by rfl, fun w' hS' => by go_simp⟩) (by assumption) ?_
                  simp only [Act.put, List.setIfInBounds_toArray, List.set_cons_zero, List.set_cons_succ]
                  refine wpAnyH_done (by kernel_rfl) ?_ _
                  go_wp2
                  exact ⟨⟨m + 1, by omega, by go_num, HM2.out, HW.out.trans (HBW.out.mono HW.out.size)⟩, by simp [intOf]; omega⟩
                replace HBW := Lib.hid HBW.out.drew
                refine wp_region_held_drew (S := fun w' => Below wr.heap.size wr w') (by kernel_rfl) HBW.out (fun hHeld => ?_)
                refine wpAnyH_take (i := 0) (oi := { dst := some 44, op := Op.move (Operand.tmp 10), type := 3, pos := "ref.go:74", after := #[], guard := none }) (v := .int .i64 (m : Int)) rfl (by kernel_rfl) (by kernel_rfl) (by kernel_rfl) (fun _ _ _ h => h) (Or.inl ⟨by rfl, fun w' hS' => by go_simp⟩) (by assumption) ?_
                simp only [Act.put, List.setIfInBounds_toArray, List.set_cons_zero, List.set_cons_succ]
                refine wpAnyH_take (i := 1) (oi := { dst := some 45, op := Op.move (Operand.tmp 5), type := 50, pos := "ref.go:74", after := #[], guard := none }) (v := .slice (some ⟨b, o, none⟩) L.length cp) rfl (by kernel_rfl) (by kernel_rfl) (by kernel_rfl) (fun _ _ _ h => h) (Or.inl ⟨by rfl, fun w' hS' => by go_simp⟩) (by assumption) ?_
                simp only [Act.put, List.setIfInBounds_toArray, List.set_cons_zero, List.set_cons_succ]
                refine wpAnyH_take (i := 2) (oi := { dst := some 46, op := Op.call { callee := Callee.builtin Builtin.len, args := #[Operand.tmp 45], argTypes := #[50] }, type := 3, pos := "ref.go:74", after := #[{ on := 1, ground := Ground.data }], guard := none }) (v := .int .i64 (L.length : Int)) rfl (by kernel_rfl) (by kernel_rfl) (by kernel_rfl) (fun _ _ _ h => h) (Or.inl ⟨by rfl, fun w' hS' => by go_simp⟩) (by assumption) ?_
                simp only [Act.put, List.setIfInBounds_toArray, List.set_cons_zero, List.set_cons_succ]
                refine wpAnyH_take (i := 3) (oi := { dst := some 47, op := Op.binOp BinOp.lss 3 (Operand.tmp 44) (Operand.tmp 46) 3, type := 4, pos := "ref.go:74", after := #[{ on := 0, ground := Ground.data }, { on := 2, ground := Ground.data }], guard := none }) (v := .bool true) rfl (by kernel_rfl) (by kernel_rfl) (by kernel_rfl) (fun _ _ _ h => h) (Or.inl ⟨by rfl, fun w' hS' => by first | (go_simp; done) | (go_simp; omega)⟩) (by assumption) ?_
                simp only [Act.put, List.setIfInBounds_toArray, List.set_cons_zero, List.set_cons_succ]
                refine wpAnyH_take (i := 4) (oi := { dst := some 48, op := Op.move (Operand.tmp 47), type := 4, pos := "ref.go:74", after := #[{ on := 3, ground := Ground.data }], guard := none }) (v := .bool true) rfl (by kernel_rfl) (by kernel_rfl) (by kernel_rfl) (fun _ _ _ h => h) (Or.inl ⟨by rfl, fun w' hS' => by go_simp⟩) (by assumption) ?_
                simp only [Act.put, List.setIfInBounds_toArray, List.set_cons_zero, List.set_cons_succ]
                refine wpAnyH_take (i := 5) (oi := { dst := some 49, op := Op.move (Operand.tmp 5), type := 50, pos := "ref.go:74", after := #[{ on := 4, ground := Ground.guard }], guard := some (4, true) }) (v := .slice (some ⟨b, o, none⟩) L.length cp) rfl (by kernel_rfl) (by kernel_rfl) (by kernel_rfl) (fun _ _ _ h => h) (Or.inl ⟨by rfl, fun w' hS' => by go_simp⟩) (by assumption) ?_
                simp only [Act.put, List.setIfInBounds_toArray, List.set_cons_zero, List.set_cons_succ]
                refine wpAnyH_take (i := 6) (oi := { dst := some 50, op := Op.move (Operand.tmp 10), type := 3, pos := "ref.go:74", after := #[{ on := 4, ground := Ground.guard }], guard := some (4, true) }) (v := .int .i64 (m : Int)) rfl (by kernel_rfl) (by kernel_rfl) (by kernel_rfl) (fun _ _ _ h => h) (Or.inl ⟨by rfl, fun w' hS' => by go_simp⟩) (by assumption) ?_
                simp only [Act.put, List.setIfInBounds_toArray, List.set_cons_zero, List.set_cons_succ]
                refine wpAnyH_take (i := 7) (oi := { dst := some 51, op := Op.indexAddr 50 (Operand.tmp 49) (Operand.tmp 50), type := 0, pos := "ref.go:74", after := #[{ on := 5, ground := Ground.data }, { on := 6, ground := Ground.data }, { on := 4, ground := Ground.guard }], guard := some (4, true) }) (v := .pointer (some ⟨b, o + m * 6, none⟩)) rfl (by kernel_rfl) (by kernel_rfl) (by kernel_rfl) (fun _ _ _ h => h) (Or.inl ⟨by rfl, fun w' hS' => by go_simp⟩) (by assumption) ?_
                simp only [Act.put, List.setIfInBounds_toArray, List.set_cons_zero, List.set_cons_succ]
                refine wpAnyH_take (i := 8) (oi := { dst := some 52, op := Op.load 35 (Operand.tmp 51), type := 35, pos := "ref.go:74", after := #[{ on := 7, ground := Ground.data }, { on := 4, ground := Ground.guard }], guard := some (4, true) }) (v := .agg #[.int .i64 y.kind, .int .u64 (y.v.a : Int), .int .u64 (y.v.b : Int), .int .u64 (y.v.c : Int), .slice y.A y.v.pre.length y.c, .slice y.B y.v.build.length y.d]) rfl (by kernel_rfl) (by kernel_rfl) (by kernel_rfl) (fun _ _ _ h => h) (Or.inl ⟨by rfl, fun w' hS' => by have q0 := (hS'.cell (p := ⟨b, o + m * 6, none⟩) hbl).trans y0; have q1 := (hS'.cell (p := ⟨b, o + m * 6 + 1, none⟩) hbl).trans y1; have q2 := (hS'.cell (p := ⟨b, o + m * 6 + 2, none⟩) hbl).trans y2; have q3 := (hS'.cell (p := ⟨b, o + m * 6 + 3, none⟩) hbl).trans y3; have q4 := (hS'.cell (p := ⟨b, o + m * 6 + 4, none⟩) hbl).trans y4; have q5 := (hS'.cell (p := ⟨b, o + m * 6 + 5, none⟩) hbl).trans y5; go_simp⟩) (by assumption) ?_
                simp only [Act.put, List.setIfInBounds_toArray, List.set_cons_zero, List.set_cons_succ]
                refine wpAnyH_take (i := 9) (oi := { dst := some 53, op := Op.load 35 (Operand.tmp 9), type := 35, pos := "ref.go:74", after := #[{ on := 4, ground := Ground.guard }], guard := some (4, true) }) (v := .agg #[.int .i64 c.kind, .int .u64 (c.v.a : Int), .int .u64 (c.v.b : Int), .int .u64 (c.v.c : Int), .slice c.A c.v.pre.length c.c, .slice c.B c.v.build.length c.d]) rfl (by kernel_rfl) (by kernel_rfl) (by kernel_rfl) (fun _ _ _ h => h) (Or.inl ⟨by rfl, fun w' hS' => by have q0 := (hS'.cell (p := ⟨pc, 0, none⟩) hpc).trans z0; have q1 := (hS'.cell (p := ⟨pc, 1, none⟩) hpc).trans z1; have q2 := (hS'.cell (p := ⟨pc, 2, none⟩) hpc).trans z2; have q3 := (hS'.cell (p := ⟨pc, 3, none⟩) hpc).trans z3; have q4 := (hS'.cell (p := ⟨pc, 4, none⟩) hpc).trans z4; have q5 := (hS'.cell (p := ⟨pc, 5, none⟩) hpc).trans z5; go_simp⟩) (by assumption) ?_
                simp only [Act.put, List.setIfInBounds_toArray, List.set_cons_zero, List.set_cons_succ]
                refine wpAnyH_ready (rs := [10]) (by kernel_rfl) (by simp) ?_
                refine AllReadyH.cons (o := { dst := some 54, op := Op.call { callee := Callee.value (Operand.func 19), args := #[Operand.tmp 52, Operand.tmp 53], argTypes := #[35, 35] }, type := 3, pos := "ref.go:74", after := #[{ on := 8, ground := Ground.data }, { on := 9, ground := Ground.data }, { on := 4, ground := Ground.chain }, { on := 4, ground := Ground.guard }], guard := some (4, true) }) rfl (fun K hK => ?_) AllReadyH.nil
                go_simp
                refine (refCompareC_any y c _ (LY.out.kept HBW.out) (LC.out.kept HBW.out)).mono ?_
                rintro e wf1 ⟨he, hb⟩
                rw [HD.out] at he
                subst he
                replace HBW := Lib.hid (HBW.out.trans (hb.mono HBW.out.size))
                clear hb hHeld
                refine hK.out _ _ HBW.out (fun hHeld => ?_)
                clear hK K
                try simp only [Act.put, List.setIfInBounds_toArray, List.set_cons_zero, List.set_cons_succ]
                refine wpAnyH_take (i := 11) (oi := { dst := some 55, op := Op.binOp BinOp.lss 3 (Operand.tmp 54) (Operand.const (Value.int IntKind.i64 0)) 3, type := 4, pos := "ref.go:74", after := #[{ on := 10, ground := Ground.data }, { on := 4, ground := Ground.guard }], guard := some (4, true) }) (v := .bool false) rfl (by kernel_rfl) (by kernel_rfl) (by kernel_rfl) (fun _ _ _ h => h) (Or.inl ⟨by rfl, fun w' hS' => by first | (go_simp; done) | (go_simp; omega)⟩) (by assumption) ?_
                simp only [Act.put, List.setIfInBounds_toArray, List.set_cons_zero, List.set_cons_succ]
                refine wpAnyH_take (i := 12) (oi := { dst := some 56, op := Op.pick (Operand.tmp 48) (Operand.tmp 55) (Operand.const (Value.bool false)), type := 4, pos := "ref.go:74", after := #[{ on := 4, ground := Ground.data }, { on := 11, ground := Ground.data }], guard := none }) (v := .bool false) rfl (by kernel_rfl) (by kernel_rfl) (by kernel_rfl) (fun _ _ _ h => h) (Or.inl ⟨by rfl, fun w' hS' => by go_simp⟩) (by assumption) ?_
                simp only [Act.put, List.setIfInBounds_toArray, List.set_cons_zero, List.set_cons_succ]
                refine wpAnyH_done (by kernel_rfl) ?_ _
                go_upto_region 16 with (fail)
                by_cases hd0 : d = 0
                · have HT2 := Lib.hid (HNX.out _ (fun x h => h) (fun _ => ⟨m, by rw [List.length_map]; exact hml, by rw [HS.out]; exact hd0⟩))
                  replace HBW := Lib.hid HBW.out.drew
                  refine wp_region_held_drew (S := fun w' => Below wr.heap.size wr w') (by kernel_rfl) HBW.out (fun hHeld => ?_)
                  refine wpAnyH_take (i := 0) (oi := { dst := some 59, op := Op.move (Operand.tmp 10), type := 3, pos := "ref.go:77", after := #[], guard := none }) (v := .int .i64 (m : Int)) rfl (by kernel_rfl) (by kernel_rfl) (by kernel_rfl) (fun _ _ _ h => h) (Or.inl ⟨by rfl, fun w' hS' => by go_simp⟩) (by assumption) ?_
                  simp only [Act.put, List.setIfInBounds_toArray, List.set_cons_zero, List.set_cons_succ]
                  refine wpAnyH_take (i := 1) (oi := { dst := some 60, op := Op.move (Operand.tmp 5), type := 50, pos := "ref.go:77", after := #[], guard := none }) (v := .slice (some ⟨b, o, none⟩) L.length cp) rfl (by kernel_rfl) (by kernel_rfl) (by kernel_rfl) (fun _ _ _ h => h) (Or.inl ⟨by rfl, fun w' hS' => by go_simp⟩) (by assumption) ?_
                  simp only [Act.put, List.setIfInBounds_toArray, List.set_cons_zero, List.set_cons_succ]
                  refine wpAnyH_take (i := 2) (oi := { dst := some 61, op := Op.call { callee := Callee.builtin Builtin.len, args := #[Operand.tmp 60], argTypes := #[50] }, type := 3, pos := "ref.go:77", after := #[{ on := 1, ground := Ground.data }], guard := none }) (v := .int .i64 (L.length : Int)) rfl (by kernel_rfl) (by kernel_rfl) (by kernel_rfl) (fun _ _ _ h => h) (Or.inl ⟨by rfl, fun w' hS' => by go_simp⟩) (by assumption) ?_
                  simp only [Act.put, List.setIfInBounds_toArray, List.set_cons_zero, List.set_cons_succ]
                  refine wpAnyH_take (i := 3) (oi := { dst := some 62, op := Op.binOp BinOp.lss 3 (Operand.tmp 59) (Operand.tmp 61) 3, type := 4, pos := "ref.go:77", after := #[{ on := 0, ground := Ground.data }, { on := 2, ground := Ground.data }], guard := none }) (v := .bool true) rfl (by kernel_rfl) (by kernel_rfl) (by kernel_rfl) (fun _ _ _ h => h) (Or.inl ⟨by rfl, fun w' hS' => by first | (go_simp; done) | (go_simp; omega)⟩) (by assumption) ?_
                  simp only [Act.put, List.setIfInBounds_toArray, List.set_cons_zero, List.set_cons_succ]
                  refine wpAnyH_take (i := 4) (oi := { dst := some 63, op := Op.move (Operand.tmp 62), type := 4, pos := "ref.go:77", after := #[{ on := 3, ground := Ground.data }], guard := none }) (v := .bool true) rfl (by kernel_rfl) (by kernel_rfl) (by kernel_rfl) (fun _ _ _ h => h) (Or.inl ⟨by rfl, fun w' hS' => by go_simp⟩) (by assumption) ?_
                  simp only [Act.put, List.setIfInBounds_toArray, List.set_cons_zero, List.set_cons_succ]
                  refine wpAnyH_take (i := 5) (oi := { dst := some 64, op := Op.move (Operand.tmp 5), type := 50, pos := "ref.go:77", after := #[{ on := 4, ground := Ground.guard }], guard := some (4, true) }) (v := .slice (some ⟨b, o, none⟩) L.length cp) rfl (by kernel_rfl) (by kernel_rfl) (by kernel_rfl) (fun _ _ _ h => h) (Or.inl ⟨by rfl, fun w' hS' => by go_simp⟩) (by assumption) ?_
                  simp only [Act.put, List.setIfInBounds_toArray, List.set_cons_zero, List.set_cons_succ]
                  refine wpAnyH_take (i := 6) (oi := { dst := some 65, op := Op.move (Operand.tmp 10), type := 3, pos := "ref.go:77", after := #[{ on := 4, ground := Ground.guard }], guard := some (4, true) }) (v := .int .i64 (m : Int)) rfl (by kernel_rfl) (by kernel_rfl) (by kernel_rfl) (fun _ _ _ h => h) (Or.inl ⟨by rfl, fun w' hS' => by go_simp⟩) (by assumption) ?_
                  simp only [Act.put, List.setIfInBounds_toArray, List.set_cons_zero, List.set_cons_succ]
                  refine wpAnyH_take (i := 7) (oi := { dst := some 66, op := Op.indexAddr 50 (Operand.tmp 64) (Operand.tmp 65), type := 0, pos := "ref.go:77", after := #[{ on := 5, ground := Ground.data }, { on := 6, ground := Ground.data }, { on := 4, ground := Ground.guard }], guard := some (4, true) }) (v := .pointer (some ⟨b, o + m * 6, none⟩)) rfl (by kernel_rfl) (by kernel_rfl) (by kernel_rfl) (fun _ _ _ h => h) (Or.inl ⟨by rfl, fun w' hS' => by go_simp⟩) (by assumption) ?_
                  simp only [Act.put, List.setIfInBounds_toArray, List.set_cons_zero, List.set_cons_succ]
                  refine wpAnyH_take (i := 8) (oi := { dst := some 67, op := Op.load 35 (Operand.tmp 66), type := 35, pos := "ref.go:77", after := #[{ on := 7, ground := Ground.data }, { on := 4, ground := Ground.guard }], guard := some (4, true) }) (v := .agg #[.int .i64 y.kind, .int .u64 (y.v.a : Int), .int .u64 (y.v.b : Int), .int .u64 (y.v.c : Int), .slice y.A y.v.pre.length y.c, .slice y.B y.v.build.length y.d]) rfl (by kernel_rfl) (by kernel_rfl) (by kernel_rfl) (fun _ _ _ h => h) (Or.inl ⟨by rfl, fun w' hS' => by have q0 := (hS'.cell (p := ⟨b, o + m * 6, none⟩) hbl).trans y0; have q1 := (hS'.cell (p := ⟨b, o + m * 6 + 1, none⟩) hbl).trans y1; have q2 := (hS'.cell (p := ⟨b, o + m * 6 + 2, none⟩) hbl).trans y2; have q3 := (hS'.cell (p := ⟨b, o + m * 6 + 3, none⟩) hbl).trans y3; have q4 := (hS'.cell (p := ⟨b, o + m * 6 + 4, none⟩) hbl).trans y4; have q5 := (hS'.cell (p := ⟨b, o + m * 6 + 5, none⟩) hbl).trans y5; go_simp⟩) (by assumption) ?_
                  simp only [Act.put, List.setIfInBounds_toArray, List.set_cons_zero, List.set_cons_succ]
                  refine wpAnyH_take (i := 9) (oi := { dst := some 68, op := Op.load 35 (Operand.tmp 9), type := 35, pos := "ref.go:77", after := #[{ on := 4, ground := Ground.guard }], guard := some (4, true) }) (v := .agg #[.int .i64 c.kind, .int .u64 (c.v.a : Int), .int .u64 (c.v.b : Int), .int .u64 (c.v.c : Int), .slice c.A c.v.pre.length c.c, .slice c.B c.v.build.length c.d]) rfl (by kernel_rfl) (by kernel_rfl) (by kernel_rfl) (fun _ _ _ h => h) (Or.inl ⟨by rfl, fun w' hS' => by have q0 := (hS'.cell (p := ⟨pc, 0, none⟩) hpc).trans z0; have q1 := (hS'.cell (p := ⟨pc, 1, none⟩) hpc).trans z1; have q2 := (hS'.cell (p := ⟨pc, 2, none⟩) hpc).trans z2; have q3 := (hS'.cell (p := ⟨pc, 3, none⟩) hpc).trans z3; have q4 := (hS'.cell (p := ⟨pc, 4, none⟩) hpc).trans z4; have q5 := (hS'.cell (p := ⟨pc, 5, none⟩) hpc).trans z5; go_simp⟩) (by assumption) ?_
                  simp only [Act.put, List.setIfInBounds_toArray, List.set_cons_zero, List.set_cons_succ]
                  refine wpAnyH_ready (rs := [10]) (by kernel_rfl) (by simp) ?_
                  refine AllReadyH.cons (o := { dst := some 69, op := Op.call { callee := Callee.value (Operand.func 19), args := #[Operand.tmp 67, Operand.tmp 68], argTypes := #[35, 35] }, type := 3, pos := "ref.go:77", after := #[{ on := 8, ground := Ground.data }, { on := 9, ground := Ground.data }, { on := 4, ground := Ground.chain }, { on := 4, ground := Ground.guard }], guard := some (4, true) }) rfl (fun K hK => ?_) AllReadyH.nil
                  go_simp
                  refine (refCompareC_any y c _ (LY.out.kept HBW.out) (LC.out.kept HBW.out)).mono ?_
                  rintro e wg1 ⟨he, hb⟩
                  rw [HD.out] at he
                  subst he
                  replace HBW := Lib.hid (HBW.out.trans (hb.mono HBW.out.size))
                  clear hb hHeld
                  refine hK.out _ _ HBW.out (fun hHeld => ?_)
                  clear hK K
                  try simp only [Act.put, List.setIfInBounds_toArray, List.set_cons_zero, List.set_cons_succ]
                  refine wpAnyH_take (i := 11) (oi := { dst := some 70, op := Op.binOp BinOp.eql 3 (Operand.tmp 69) (Operand.const (Value.int IntKind.i64 0)) 3, type := 4, pos := "ref.go:77", after := #[{ on := 10, ground := Ground.data }, { on := 4, ground := Ground.guard }], guard := some (4, true) }) (v := .bool true) rfl (by kernel_rfl) (by kernel_rfl) (by kernel_rfl) (fun _ _ _ h => h) (Or.inl ⟨by rfl, fun w' hS' => by first | (go_simp; done) | (go_simp; omega)⟩) (by assumption) ?_
                  simp only [Act.put, List.setIfInBounds_toArray, List.set_cons_zero, List.set_cons_succ]
                  refine wpAnyH_take (i := 12) (oi := { dst := some 71, op := Op.pick (Operand.tmp 63) (Operand.tmp 70) (Operand.const (Value.bool false)), type := 4, pos := "ref.go:77", after := #[{ on := 4, ground := Ground.data }, { on := 11, ground := Ground.data }], guard := none }) (v := .bool true) rfl (by kernel_rfl) (by kernel_rfl) (by kernel_rfl) (fun _ _ _ h => h) (Or.inl ⟨by rfl, fun w' hS' => by go_simp⟩) (by assumption) ?_
                  simp only [Act.put, List.setIfInBounds_toArray, List.set_cons_zero, List.set_cons_succ]
                  refine wpAnyH_done (by kernel_rfl) ?_ _
                  have HA4 := Lib.hid (HA3.out.kept HBW.out)
                  go_wp2
                  exact ⟨⟨1, b, o, cp, L, by omega, by go_num, rfl, HA4.out, HH.out, HT2.out, by omega⟩, by simp [intOf]⟩
                have HJ : Hid (m = (L.map RCut.cut).length ∨ 0 < stand (cutAt (L.map RCut.cut) m) c.cut) := .inr (by rw [HS.out]; omega)
                replace HBW := Lib.hid HBW.out.drew
                refine wp_region_held_drew (S := fun w' => Below wr.heap.size wr w') (by kernel_rfl) HBW.out (fun hHeld => ?_)
                refine wpAnyH_take (i := 0) (oi := { dst := some 59, op := Op.move (Operand.tmp 10), type := 3, pos := "ref.go:77", after := #[], guard := none }) (v := .int .i64 (m : Int)) rfl (by kernel_rfl) (by kernel_rfl) (by kernel_rfl) (fun _ _ _ h => h) (Or.inl ⟨by rfl, fun w' hS' => by go_simp⟩) (by assumption) ?_
                simp only [Act.put, List.setIfInBounds_toArray, List.set_cons_zero, List.set_cons_succ]
                refine wpAnyH_take (i := 1) (oi := { dst := some 60, op := Op.move (Operand.tmp 5), type := 50, pos := "ref.go:77", after := #[], guard := none }) (v := .slice (some ⟨b, o, none⟩) L.length cp) rfl (by kernel_rfl) (by kernel_rfl) (by kernel_rfl) (fun _ _ _ h => h) (Or.inl ⟨by rfl, fun w' hS' => by go_simp⟩) (by assumption) ?_
                simp only [Act.put, List.setIfInBounds_toArray, List.set_cons_zero, List.set_cons_succ]
                refine wpAnyH_take (i := 2) (oi := { dst := some 61, op := Op.call { callee := Callee.builtin Builtin.len, args := #[Operand.tmp 60], argTypes := #[50] }, type := 3, pos := "ref.go:77", after := #[{ on := 1, ground := Ground.data }], guard := none }) (v := .int .i64 (L.length : Int)) rfl (by kernel_rfl) (by kernel_rfl) (by kernel_rfl) (fun _ _ _ h => h) (Or.inl ⟨by rfl, fun w' hS' => by go_simp⟩) (by assumption) ?_
                simp only [Act.put, List.setIfInBounds_toArray, List.set_cons_zero, List.set_cons_succ]
                refine wpAnyH_take (i := 3) (oi := { dst := some 62, op := Op.binOp BinOp.lss 3 (Operand.tmp 59) (Operand.tmp 61) 3, type := 4, pos := "ref.go:77", after := #[{ on := 0, ground := Ground.data }, { on := 2, ground := Ground.data }], guard := none }) (v := .bool true) rfl (by kernel_rfl) (by kernel_rfl) (by kernel_rfl) (fun _ _ _ h => h) (Or.inl ⟨by rfl, fun w' hS' => by first | (go_simp; done) | (go_simp; omega)⟩) (by assumption) ?_
                simp only [Act.put, List.setIfInBounds_toArray, List.set_cons_zero, List.set_cons_succ]
                refine wpAnyH_take (i := 4) (oi := { dst := some 63, op := Op.move (Operand.tmp 62), type := 4, pos := "ref.go:77", after := #[{ on := 3, ground := Ground.data }], guard := none }) (v := .bool true) rfl (by kernel_rfl) (by kernel_rfl) (by kernel_rfl) (fun _ _ _ h => h) (Or.inl ⟨by rfl, fun w' hS' => by go_simp⟩) (by assumption) ?_
                simp only [Act.put, List.setIfInBounds_toArray, List.set_cons_zero, List.set_cons_succ]
                refine wpAnyH_take (i := 5) (oi := { dst := some 64, op := Op.move (Operand.tmp 5), type := 50, pos := "ref.go:77", after := #[{ on := 4, ground := Ground.guard }], guard := some (4, true) }) (v := .slice (some ⟨b, o, none⟩) L.length cp) rfl (by kernel_rfl) (by kernel_rfl) (by kernel_rfl) (fun _ _ _ h => h) (Or.inl ⟨by rfl, fun w' hS' => by go_simp⟩) (by assumption) ?_
                simp only [Act.put, List.setIfInBounds_toArray, List.set_cons_zero, List.set_cons_succ]
                refine wpAnyH_take (i := 6) (oi := { dst := some 65, op := Op.move (Operand.tmp 10), type := 3, pos := "ref.go:77", after := #[{ on := 4, ground := Ground.guard }], guard := some (4, true) }) (v := .int .i64 (m : Int)) rfl (by kernel_rfl) (by kernel_rfl) (by kernel_rfl) (fun _ _ _ h => h) (Or.inl ⟨by rfl, fun w' hS' => by go_simp⟩) (by assumption) ?_
                simp only [Act.put, List.setIfInBounds_toArray, List.set_cons_zero, List.set_cons_succ]
                refine wpAnyH_take (i := 7) (oi := { dst := some 66, op := Op.indexAddr 50 (Operand.tmp 64) (Operand.tmp 65), type := 0, pos := "ref.go:77", after := #[{ on := 5, ground := Ground.data }, { on := 6, ground := Ground.data }, { on := 4, ground := Ground.guard }], guard := some (4, true) }) (v := .pointer (some ⟨b, o + m * 6, none⟩)) rfl (by kernel_rfl) (by kernel_rfl) (by kernel_rfl) (fun _ _ _ h => h) (Or.inl ⟨by rfl, fun w' hS' => by go_simp⟩) (by assumption) ?_
                simp only [Act.put, List.setIfInBounds_toArray, List.set_cons_zero, List.set_cons_succ]
                refine wpAnyH_take (i := 8) (oi := { dst := some 67, op := Op.load 35 (Operand.tmp 66), type := 35, pos := "ref.go:77", after := #[{ on := 7, ground := Ground.data }, { on := 4, ground := Ground.guard }], guard := some (4, true) }) (v := .agg #[.int .i64 y.kind, .int .u64 (y.v.a : Int), .int .u64 (y.v.b : Int), .int .u64 (y.v.c : Int), .slice y.A y.v.pre.length y.c, .slice y.B y.v.build.length y.d]) rfl (by kernel_rfl) (by kernel_rfl) (by kernel_rfl) (fun _ _ _ h => h) (Or.inl ⟨by rfl, fun w' hS' => by have q0 := (hS'.cell (p := ⟨b, o + m * 6, none⟩) hbl).trans y0; have q1 := (hS'.cell (p := ⟨b, o + m * 6 + 1, none⟩) hbl).trans y1; have q2 := (hS'.cell (p := ⟨b, o + m * 6 + 2, none⟩) hbl).trans y2; have q3 := (hS'.cell (p := ⟨b, o + m * 6 + 3, none⟩) hbl).trans y3; have q4 := (hS'.cell (p := ⟨b, o + m * 6 + 4, none⟩) hbl).trans y4; have q5 := (hS'.cell (p := ⟨b, o + m * 6 + 5, none⟩) hbl).trans y5; go_simp⟩) (by assumption) ?_
                simp only [Act.put, List.setIfInBounds_toArray, List.set_cons_zero, List.set_cons_succ]
                refine wpAnyH_take (i := 9) (oi := { dst := some 68, op := Op.load 35 (Operand.tmp 9), type := 35, pos := "ref.go:77", after := #[{ on := 4, ground := Ground.guard }], guard := some (4, true) }) (v := .agg #[.int .i64 c.kind, .int .u64 (c.v.a : Int), .int .u64 (c.v.b : Int), .int .u64 (c.v.c : Int), .slice c.A c.v.pre.length c.c, .slice c.B c.v.build.length c.d]) rfl (by kernel_rfl) (by kernel_rfl) (by kernel_rfl) (fun _ _ _ h => h) (Or.inl ⟨by rfl, fun w' hS' => by have q0 := (hS'.cell (p := ⟨pc, 0, none⟩) hpc).trans z0; have q1 := (hS'.cell (p := ⟨pc, 1, none⟩) hpc).trans z1; have q2 := (hS'.cell (p := ⟨pc, 2, none⟩) hpc).trans z2; have q3 := (hS'.cell (p := ⟨pc, 3, none⟩) hpc).trans z3; have q4 := (hS'.cell (p := ⟨pc, 4, none⟩) hpc).trans z4; have q5 := (hS'.cell (p := ⟨pc, 5, none⟩) hpc).trans z5; go_simp⟩) (by assumption) ?_
                simp only [Act.put, List.setIfInBounds_toArray, List.set_cons_zero, List.set_cons_succ]
                refine wpAnyH_ready (rs := [10]) (by kernel_rfl) (by simp) ?_
                refine AllReadyH.cons (o := { dst := some 69, op := Op.call { callee := Callee.value (Operand.func 19), args := #[Operand.tmp 67, Operand.tmp 68], argTypes := #[35, 35] }, type := 3, pos := "ref.go:77", after := #[{ on := 8, ground := Ground.data }, { on := 9, ground := Ground.data }, { on := 4, ground := Ground.chain }, { on := 4, ground := Ground.guard }], guard := some (4, true) }) rfl (fun K hK => ?_) AllReadyH.nil
                go_simp
                refine (refCompareC_any y c _ (LY.out.kept HBW.out) (LC.out.kept HBW.out)).mono ?_
                rintro e wg1 ⟨he, hb⟩
                rw [HD.out] at he
                subst he
                replace HBW := Lib.hid (HBW.out.trans (hb.mono HBW.out.size))
                clear hb hHeld
                refine hK.out _ _ HBW.out (fun hHeld => ?_)
                clear hK K
                try simp only [Act.put, List.setIfInBounds_toArray, List.set_cons_zero, List.set_cons_succ]
                refine wpAnyH_take (i := 11) (oi := { dst := some 70, op := Op.binOp BinOp.eql 3 (Operand.tmp 69) (Operand.const (Value.int IntKind.i64 0)) 3, type := 4, pos := "ref.go:77", after := #[{ on := 10, ground := Ground.data }, { on := 4, ground := Ground.guard }], guard := some (4, true) }) (v := .bool false) rfl (by kernel_rfl) (by kernel_rfl) (by kernel_rfl) (fun _ _ _ h => h) (Or.inl ⟨by rfl, fun w' hS' => by first | (go_simp; done) | (go_simp; omega)⟩) (by assumption) ?_
                simp only [Act.put, List.setIfInBounds_toArray, List.set_cons_zero, List.set_cons_succ]
                refine wpAnyH_take (i := 12) (oi := { dst := some 71, op := Op.pick (Operand.tmp 63) (Operand.tmp 70) (Operand.const (Value.bool false)), type := 4, pos := "ref.go:77", after := #[{ on := 4, ground := Ground.data }, { on := 11, ground := Ground.data }], guard := none }) (v := .bool false) rfl (by kernel_rfl) (by kernel_rfl) (by kernel_rfl) (fun _ _ _ h => h) (Or.inl ⟨by rfl, fun w' hS' => by go_simp⟩) (by assumption) ?_
                simp only [Act.put, List.setIfInBounds_toArray, List.set_cons_zero, List.set_cons_succ]
                refine wpAnyH_done (by kernel_rfl) ?_ _
                clear y0 y1 y2 y3 y4 y5 LY HD HS hd0 hd1
                go_upto_region 17 with (fail)
                generalize wg1 = wz at HBW ⊢
                have HA7 := Lib.hid (HA3.out.kept HBW.out)
                have K7 := Lib.hid (K3.out.kept HBW.out hpc)
                refine ins17 w w5 wz b o cp m pc L c _ _ _ _ _ _ _ _ _ _ _ _ _ _ _ _ _ _ _ _ _ _ _ _ _ _ _ _ _ _ _ _ _ _ _ _ _ _ _ _ _ _ _ _ _ _ _ _ _ _ _ _ _ _ _ _ _ _ _ _ _ _ _ _ _ _ _ _ _ _ _ _ _ _ _ _ _ _ _ _ _ _ hm (by omega) HA7.out K7.out (fun _ _ _ _ _ h => h) ?_
                intro g' cp' L' W' t0 t1 t2 t3 t4 t5 t6 t7 t8 t9 t10 t11 hL' k3 k1 k2 hB
                have HLL := Lib.hid hL'
                have hl2 : L'.length = L.length + 1 := by rw [← hL']; simp; omega
                have HF1 : Hid (Rise (L'.map RCut.cut)) := by unfold Hid; rw [← hL', ins_map]; exact HA3.out.rise.ins G1.out HM.out (by rw [List.length_map]; exact hm) HJ.out
                have HF2 : Hid (∀ r ∈ L', Lies w r) := fun x hx => by
                  rw [← HLL.out] at hx
                  rcases List.mem_append.1 hx with hx | hx
                  · exact HA3.out.lies x (List.mem_of_mem_take hx)
                  · rcases List.mem_cons.1 hx with rfl | hx
                    · exact LCW.out
                    · exact HA3.out.lies x (List.mem_of_mem_drop hx)
                have HF3 : Hid (HitsAll (L'.map RCut.cut) ((all.take k).map RSp.sp)) := by unfold Hid; rw [← hL', ins_map]; exact HH.out.more ins_mem
                have HF4 := Lib.hid (HNX.out (L'.map RCut.cut) (by rw [← hL', ins_map]; exact ins_mem) (fun _ => by rw [← hL', ins_map]; exact ins_hits))
                have HAF : Hid (CutsAt w w5 g' 0 cp' L' W') := ⟨k3, HF2.out, HF1.out, k1, k2, HA7.out.bel.trans (hB.mono HA7.out.bel.size)⟩
                clear hL' hB k1 k2 k3 HJ
                go_wp2
                exact ⟨⟨1, g', 0, cp', L', by omega, by go_num, rfl, HAF.out, HF3.out, HF4.out, by omega⟩, by simp [intOf]⟩
              · have HJ : Hid (m = (L.map RCut.cut).length ∨ 0 < stand (cutAt (L.map RCut.cut) m) c.cut) := .inl (by rw [List.length_map]; omega)
                go_upto_region 14 with (fail)
                replace HBW := Lib.hid HBW.out.drew
                refine wp_region_held_drew (S := fun w' => Below wr.heap.size wr w') (by kernel_rfl) HBW.out (fun hHeld => ?_)
                refine wpAnyH_take (i := 0) (oi := { dst := some 44, op := Op.move (Operand.tmp 10), type := 3, pos := "ref.go:74", after := #[], guard := none }) (v := .int .i64 (m : Int)) rfl (by kernel_rfl) (by kernel_rfl) (by kernel_rfl) (fun _ _ _ h => h) (Or.inl ⟨by rfl, fun w' hS' => by go_simp⟩) (by assumption) ?_
                simp only [Act.put, List.setIfInBounds_toArray, List.set_cons_zero, List.set_cons_succ]
                refine wpAnyH_take (i := 1) (oi := { dst := some 45, op := Op.move (Operand.tmp 5), type := 50, pos := "ref.go:74", after := #[], guard := none }) (v := .slice (some ⟨b, o, none⟩) L.length cp) rfl (by kernel_rfl) (by kernel_rfl) (by kernel_rfl) (fun _ _ _ h => h) (Or.inl ⟨by rfl, fun w' hS' => by go_simp⟩) (by assumption) ?_
                simp only [Act.put, List.setIfInBounds_toArray, List.set_cons_zero, List.set_cons_succ]
                refine wpAnyH_take (i := 2) (oi := { dst := some 46, op := Op.call { callee := Callee.builtin Builtin.len, args := #[Operand.tmp 45], argTypes := #[50] }, type := 3, pos := "ref.go:74", after := #[{ on := 1, ground := Ground.data }], guard := none }) (v := .int .i64 (L.length : Int)) rfl (by kernel_rfl) (by kernel_rfl) (by kernel_rfl) (fun _ _ _ h => h) (Or.inl ⟨by rfl, fun w' hS' => by go_simp⟩) (by assumption) ?_
                simp only [Act.put, List.setIfInBounds_toArray, List.set_cons_zero, List.set_cons_succ]
                refine wpAnyH_take (i := 3) (oi := { dst := some 47, op := Op.binOp BinOp.lss 3 (Operand.tmp 44) (Operand.tmp 46) 3, type := 4, pos := "ref.go:74", after := #[{ on := 0, ground := Ground.data }, { on := 2, ground := Ground.data }], guard := none }) (v := .bool false) rfl (by kernel_rfl) (by kernel_rfl) (by kernel_rfl) (fun _ _ _ h => h) (Or.inl ⟨by rfl, fun w' hS' => by first | (go_simp; done) | (go_simp; omega)⟩) (by assumption) ?_
                simp only [Act.put, List.setIfInBounds_toArray, List.set_cons_zero, List.set_cons_succ]
                refine wpAnyH_take (i := 4) (oi := { dst := some 48, op := Op.move (Operand.tmp 47), type := 4, pos := "ref.go:74", after := #[{ on := 3, ground := Ground.data }], guard := none }) (v := .bool false) rfl (by kernel_rfl) (by kernel_rfl) (by kernel_rfl) (fun _ _ _ h => h) (Or.inl ⟨by rfl, fun w' hS' => by go_simp⟩) (by assumption) ?_
                simp only [Act.put, List.setIfInBounds_toArray, List.set_cons_zero, List.set_cons_succ]
                refine wpAnyH_take (i := 5) (oi := { dst := some 49, op := Op.move (Operand.tmp 5), type := 50, pos := "ref.go:74", after := #[{ on := 4, ground := Ground.guard }], guard := some (4, true) }) (v := undef) rfl (by kernel_rfl) (by kernel_rfl) (by kernel_rfl) (fun _ _ _ h => h) (Or.inr ⟨by rfl, rfl⟩) (by assumption) ?_
                simp only [Act.put, List.setIfInBounds_toArray, List.set_cons_zero, List.set_cons_succ]
                refine wpAnyH_take (i := 6) (oi := { dst := some 50, op := Op.move (Operand.tmp 10), type := 3, pos := "ref.go:74", after := #[{ on := 4, ground := Ground.guard }], guard := some (4, true) }) (v := undef) rfl (by kernel_rfl) (by kernel_rfl) (by kernel_rfl) (fun _ _ _ h => h) (Or.inr ⟨by rfl, rfl⟩) (by assumption) ?_
                simp only [Act.put, List.setIfInBounds_toArray, List.set_cons_zero, List.set_cons_succ]
                refine wpAnyH_take (i := 7) (oi := { dst := some 51, op := Op.indexAddr 50 (Operand.tmp 49) (Operand.tmp 50), type := 0, pos := "ref.go:74", after := #[{ on := 5, ground := Ground.data }, { on := 6, ground := Ground.data }, { on := 4, ground := Ground.guard }], guard := some (4, true) }) (v := undef) rfl (by kernel_rfl) (by kernel_rfl) (by kernel_rfl) (fun _ _ _ h => h) (Or.inr ⟨by rfl, rfl⟩) (by assumption) ?_
                simp only [Act.put, List.setIfInBounds_toArray, List.set_cons_zero, List.set_cons_succ]
                refine wpAnyH_take (i := 8) (oi := { dst := some 52, op := Op.load 35 (Operand.tmp 51), type := 35, pos := "ref.go:74", after := #[{ on := 7, ground := Ground.data }, { on := 4, ground := Ground.guard }], guard := some (4, true) }) (v := undef) rfl (by kernel_rfl) (by kernel_rfl) (by kernel_rfl) (fun _ _ _ h => h) (Or.inr ⟨by rfl, rfl⟩) (by assumption) ?_
                simp only [Act.put, List.setIfInBounds_toArray, List.set_cons_zero, List.set_cons_succ]
                refine wpAnyH_take (i := 9) (oi := { dst := some 53, op := Op.load 35 (Operand.tmp 9), type := 35, pos := "ref.go:74", after := #[{ on := 4, ground := Ground.guard }], guard := some (4, true) }) (v := undef) rfl (by kernel_rfl) (by kernel_rfl) (by kernel_rfl) (fun _ _ _ h => h) (Or.inr ⟨by rfl, rfl⟩) (by assumption) ?_
                simp only [Act.put, List.setIfInBounds_toArray, List.set_cons_zero, List.set_cons_succ]
                refine wpAnyH_take (i := 10) (oi := { dst := some 54, op := Op.call { callee := Callee.value (Operand.func 19), args := #[Operand.tmp 52, Operand.tmp 53], argTypes := #[35, 35] }, type := 3, pos := "ref.go:74", after := #[{ on := 8, ground := Ground.data }, { on := 9, ground := Ground.data }, { on := 4, ground := Ground.chain }, { on := 4, ground := Ground.guard }], guard := some (4, true) }) (v := undef) rfl (by kernel_rfl) (by kernel_rfl) (by kernel_rfl) (fun _ _ _ h => h) (Or.inr ⟨by rfl, rfl⟩) (by assumption) ?_
                simp only [Act.put, List.setIfInBounds_toArray, List.set_cons_zero, List.set_cons_succ]
                refine wpAnyH_take (i := 11) (oi := { dst := some 55, op := Op.binOp BinOp.lss 3 (Operand.tmp 54) (Operand.const (Value.int IntKind.i64 0)) 3, type := 4, pos := "ref.go:74", after := #[{ on := 10, ground := Ground.data }, { on := 4, ground := Ground.guard }], guard := some (4, true) }) (v := undef) rfl (by kernel_rfl) (by kernel_rfl) (by kernel_rfl) (fun _ _ _ h => h) (Or.inr ⟨by rfl, rfl⟩) (by assumption) ?_
                simp only [Act.put, List.setIfInBounds_toArray, List.set_cons_zero, List.set_cons_succ]
                refine wpAnyH_take (i := 12) (oi := { dst := some 56, op := Op.pick (Operand.tmp 48) (Operand.tmp 55) (Operand.const (Value.bool false)), type := 4, pos := "ref.go:74", after := #[{ on := 4, ground := Ground.data }, { on := 11, ground := Ground.data }], guard := none }) (v := .bool false) rfl (by kernel_rfl) (by kernel_rfl) (by kernel_rfl) (fun _ _ _ h => h) (Or.inl ⟨by rfl, fun w' hS' => by go_simp⟩) (by assumption) ?_
                simp only [Act.put, List.setIfInBounds_toArray, List.set_cons_zero, List.set_cons_succ]
                refine wpAnyH_done (by kernel_rfl) ?_ _
                go_upto_region 16 with (fail)
                replace HBW := Lib.hid HBW.out.drew
                refine wp_region_held_drew (S := fun w' => Below wr.heap.size wr w') (by kernel_rfl) HBW.out (fun hHeld => ?_)
                refine wpAnyH_take (i := 0) (oi := { dst := some 59, op := Op.move (Operand.tmp 10), type := 3, pos := "ref.go:77", after := #[], guard := none }) (v := .int .i64 (m : Int)) rfl (by kernel_rfl) (by kernel_rfl) (by kernel_rfl) (fun _ _ _ h => h) (Or.inl ⟨by rfl, fun w' hS' => by go_simp⟩) (by assumption) ?_
                simp only [Act.put, List.setIfInBounds_toArray, List.set_cons_zero, List.set_cons_succ]
                refine wpAnyH_take (i := 1) (oi := { dst := some 60, op := Op.move (Operand.tmp 5), type := 50, pos := "ref.go:77", after := #[], guard := none }) (v := .slice (some ⟨b, o, none⟩) L.length cp) rfl (by kernel_rfl) (by kernel_rfl) (by kernel_rfl) (fun _ _ _ h => h) (Or.inl ⟨by rfl, fun w' hS' => by go_simp⟩) (by assumption) ?_
                simp only [Act.put, List.setIfInBounds_toArray, List.set_cons_zero, List.set_cons_succ]
                refine wpAnyH_take (i := 2) (oi := { dst := some 61, op := Op.call { callee := Callee.builtin Builtin.len, args := #[Operand.tmp 60], argTypes := #[50] }, type := 3, pos := "ref.go:77", after := #[{ on := 1, ground := Ground.data }], guard := none }) (v := .int .i64 (L.length : Int)) rfl (by kernel_rfl) (by kernel_rfl) (by kernel_rfl) (fun _ _ _ h => h) (Or.inl ⟨by rfl, fun w' hS' => by go_simp⟩) (by assumption) ?_
                simp only [Act.put, List.setIfInBounds_toArray, List.set_cons_zero, List.set_cons_succ]
                refine wpAnyH_take (i := 3) (oi := { dst := some 62, op := Op.binOp BinOp.lss 3 (Operand.tmp 59) (Operand.tmp 61) 3, type := 4, pos := "ref.go:77", after := #[{ on := 0, ground := Ground.data }, { on := 2, ground := Ground.data }], guard := none }) (v := .bool false) rfl (by kernel_rfl) (by kernel_rfl) (by kernel_rfl) (fun _ _ _ h => h) (Or.inl ⟨by rfl, fun w' hS' => by first | (go_simp; done) | (go_simp; omega)⟩) (by assumption) ?_
                simp only [Act.put, List.setIfInBounds_toArray, List.set_cons_zero, List.set_cons_succ]
                refine wpAnyH_take (i := 4) (oi := { dst := some 63, op := Op.move (Operand.tmp 62), type := 4, pos := "ref.go:77", after := #[{ on := 3, ground := Ground.data }], guard := none }) (v := .bool false) rfl (by kernel_rfl) (by kernel_rfl) (by kernel_rfl) (fun _ _ _ h => h) (Or.inl ⟨by rfl, fun w' hS' => by go_simp⟩) (by assumption) ?_
                simp only [Act.put, List.setIfInBounds_toArray, List.set_cons_zero, List.set_cons_succ]
                refine wpAnyH_take (i := 5) (oi := { dst := some 64, op := Op.move (Operand.tmp 5), type := 50, pos := "ref.go:77", after := #[{ on := 4, ground := Ground.guard }], guard := some (4, true) }) (v := undef) rfl (by kernel_rfl) (by kernel_rfl) (by kernel_rfl) (fun _ _ _ h => h) (Or.inr ⟨by rfl, rfl⟩) (by assumption) ?_
                simp only [Act.put, List.setIfInBounds_toArray, List.set_cons_zero, List.set_cons_succ]
                refine wpAnyH_take (i := 6) (oi := { dst := some 65, op := Op.move (Operand.tmp 10), type := 3, pos := "ref.go:77", after := #[{ on := 4, ground := Ground.guard }], guard := some (4, true) }) (v := undef) rfl (by kernel_rfl) (by kernel_rfl) (by kernel_rfl) (fun _ _ _ h => h) (Or.inr ⟨by rfl, rfl⟩) (by assumption) ?_
                simp only [Act.put, List.setIfInBounds_toArray, List.set_cons_zero, List.set_cons_succ]
                refine wpAnyH_take (i := 7) (oi := { dst := some 66, op := Op.indexAddr 50 (Operand.tmp 64) (Operand.tmp 65), type := 0, pos := "ref.go:77", after := #[{ on := 5, ground := Ground.data }, { on := 6, ground := Ground.data }, { on := 4, ground := Ground.guard }], guard := some (4, true) }) (v := undef) rfl (by kernel_rfl) (by kernel_rfl) (by kernel_rfl) (fun _ _ _ h => h) (Or.inr ⟨by rfl, rfl⟩) (by assumption) ?_
                simp only [Act.put, List.setIfInBounds_toArray, List.set_cons_zero, List.set_cons_succ]
                refine wpAnyH_take (i := 8) (oi := { dst := some 67, op := Op.load 35 (Operand.tmp 66), type := 35, pos := "ref.go:77", after := #[{ on := 7, ground := Ground.data }, { on := 4, ground := Ground.guard }], guard := some (4, true) }) (v := undef) rfl (by kernel_rfl) (by kernel_rfl) (by kernel_rfl) (fun _ _ _ h => h) (Or.inr ⟨by rfl, rfl⟩) (by assumption) ?_
                simp only [Act.put, List.setIfInBounds_toArray, List.set_cons_zero, List.set_cons_succ]
                refine wpAnyH_take (i := 9) (oi := { dst := some 68, op := Op.load 35 (Operand.tmp 9), type := 35, pos := "ref.go:77", after := #[{ on := 4, ground := Ground.guard }], guard := some (4, true) }) (v := undef) rfl (by kernel_rfl) (by kernel_rfl) (by kernel_rfl) (fun _ _ _ h => h) (Or.inr ⟨by rfl, rfl⟩) (by assumption) ?_
                simp only [Act.put, List.setIfInBounds_toArray, List.set_cons_zero, List.set_cons_succ]
                refine wpAnyH_take (i := 10) (oi := { dst := some 69, op := Op.call { callee := Callee.value (Operand.func 19), args := #[Operand.tmp 67, Operand.tmp 68], argTypes := #[35, 35] }, type := 3, pos := "ref.go:77", after := #[{ on := 8, ground := Ground.data }, { on := 9, ground := Ground.data }, { on := 4, ground := Ground.chain }, { on := 4, ground := Ground.guard }], guard := some (4, true) }) (v := undef) rfl (by kernel_rfl) (by kernel_rfl) (by kernel_rfl) (fun _ _ _ h => h) (Or.inr ⟨by rfl, rfl⟩) (by assumption) ?_
                simp only [Act.put, List.setIfInBounds_toArray, List.set_cons_zero, List.set_cons_succ]
                refine wpAnyH_take (i := 11) (oi := { dst := some 70, op := Op.binOp BinOp.eql 3 (Operand.tmp 69) (Operand.const (Value.int IntKind.i64 0)) 3, type := 4, pos := "ref.go:77", after := #[{ on := 10, ground := Ground.data }, { on := 4, ground := Ground.guard }], guard := some (4, true) }) (v := undef) rfl (by kernel_rfl) (by kernel_rfl) (by kernel_rfl) (fun _ _ _ h => h) (Or.inr ⟨by rfl, rfl⟩) (by assumption) ?_
                simp only [Act.put, List.setIfInBounds_toArray, List.set_cons_zero, List.set_cons_succ]
                refine wpAnyH_take (i := 12) (oi := { dst := some 71, op := Op.pick (Operand.tmp 63) (Operand.tmp 70) (Operand.const (Value.bool false)), type := 4, pos := "ref.go:77", after := #[{ on := 4, ground := Ground.data }, { on := 11, ground := Ground.data }], guard := none }) (v := .bool false) rfl (by kernel_rfl) (by kernel_rfl) (by kernel_rfl) (fun _ _ _ h => h) (Or.inl ⟨by rfl, fun w' hS' => by go_simp⟩) (by assumption) ?_
                simp only [Act.put, List.setIfInBounds_toArray, List.set_cons_zero, List.set_cons_succ]
                refine wpAnyH_done (by kernel_rfl) ?_ _
                go_upto_region 17 with (fail)
                generalize wr.drew.drew = wz at HBW ⊢
                have HA7 := Lib.hid (HA3.out.kept HBW.out)
                have K7 := Lib.hid (K3.out.kept HBW.out hpc)
                refine ins17 w w5 wz b o cp m pc L c _ _ _ _ _ _ _ _ _ _ _ _ _ _ _ _ _ _ _ _ _ _ _ _ _ _ _ _ _ _ _ _ _ _ _ _ _ _ _ _ _ _ _ _ _ _ _ _ _ _ _ _ _ _ _ _ _ _ _ _ _ _ _ _ _ _ _ _ _ _ _ _ _ _ _ _ _ _ _ _ _ _ hm (by omega) HA7.out K7.out (fun _ _ _ _ _ h => h) ?_
                intro g' cp' L' W' t0 t1 t2 t3 t4 t5 t6 t7 t8 t9 t10 t11 hL' k3 k1 k2 hB
                have HLL := Lib.hid hL'
                have hl2 : L'.length = L.length + 1 := by rw [← hL']; simp; omega
                have HF1 : Hid (Rise (L'.map RCut.cut)) := by unfold Hid; rw [← hL', ins_map]; exact HA3.out.rise.ins G1.out HM.out (by rw [List.length_map]; exact hm) HJ.out
                have HF2 : Hid (∀ r ∈ L', Lies w r) := fun x hx => by
                  rw [← HLL.out] at hx
                  rcases List.mem_append.1 hx with hx | hx
                  · exact HA3.out.lies x (List.mem_of_mem_take hx)
                  · rcases List.mem_cons.1 hx with rfl | hx
                    · exact LCW.out
                    · exact HA3.out.lies x (List.mem_of_mem_drop hx)
                have HF3 : Hid (HitsAll (L'.map RCut.cut) ((all.take k).map RSp.sp)) := by unfold Hid; rw [← hL', ins_map]; exact HH.out.more ins_mem
                have HF4 := Lib.hid (HNX.out (L'.map RCut.cut) (by rw [← hL', ins_map]; exact ins_mem) (fun _ => by rw [← hL', ins_map]; exact ins_hits))
                have HAF : Hid (CutsAt w w5 g' 0 cp' L' W') := ⟨k3, HF2.out, HF1.out, k1, k2, HA7.out.bel.trans (hB.mono HA7.out.bel.size)⟩
                clear hL' hB k1 k2 k3 HJ
                go_wp2
                exact ⟨⟨1, g', 0, cp', L', by omega, by go_num, rfl, HAF.out, HF3.out, HF4.out, by omega⟩, by simp [intOf]⟩
          · have HNX : Hid (∀ M : List Cut, (∀ x ∈ L.map RCut.cut, x ∈ M) → (right s.hi.cut = true → Hits M s.hi.cut) → Two M (all.getD k default).sp 2) := fun M h1 h2 => by have h3 := HT.out.1 (by omega); rw [hs] at h3 ⊢; exact ⟨fun _ g => (h3 g).more h1, fun _ => h2⟩
            have LC := Lib.hid LS.out.hi
            clear hs LS
            go_upto_region 12 with (fail)
            clear x0 x1 x2 x3 x4 x5 x6 x7 x8 x9 x10 x11
            generalize s.hi = c at HNX LC ⊢
            have A1 : Hid (Below wr.heap.size wr (wr.alloc (.cells #[.int .i64 c.kind, .int .u64 (c.v.a : Int), .int .u64 (c.v.b : Int), .int .u64 (c.v.c : Int), .slice c.A c.v.pre.length c.c, .slice c.B c.v.build.length c.d] 35))) := (Below.refl _ _).alloc (Nat.le_refl _) _
            have K1 : Hid (At6B (wr.alloc (.cells #[.int .i64 c.kind, .int .u64 (c.v.a : Int), .int .u64 (c.v.b : Int), .int .u64 (c.v.c : Int), .slice c.A c.v.pre.length c.c, .slice c.B c.v.build.length c.d] 35)) wr.heap.size (.int .i64 c.kind) (.int .u64 (c.v.a : Int)) (.int .u64 (c.v.b : Int)) (.int .u64 (c.v.c : Int)) (.slice c.A c.v.pre.length c.c) (.slice c.B c.v.build.length c.d)) := At6B.new wr _ _ _ _ _ _ _
            generalize (wr.alloc (.cells #[.int .i64 c.kind, .int .u64 (c.v.a : Int), .int .u64 (c.v.b : Int), .int .u64 (c.v.c : Int), .slice c.A c.v.pre.length c.c, .slice c.B c.v.build.length c.d] 35)) = w1 at A1 K1 ⊢
            have HA1 := Lib.hid (HA.out.kept A1.out)
            obtain ⟨pc, hpc0⟩ : ∃ pc, wr.heap.size = pc := ⟨_, rfl⟩
            rw [hpc0] at K1 ⊢
            clear hpc0 A1 HA
            have LC1 := Lib.hid (LC.out.kept (HBL.out.trans (HA1.out.bel.mono HBL.out.size)))
            obtain ⟨_, _, z0, z1, z2, z3, z4, z5⟩ := K1.out
            go_wp2_with fail
            refine (refRight_any c _ LC1.out).mono ?_
            rintro e w2 ⟨rfl, hb⟩
            have HA2 := Lib.hid (HA1.out.kept hb)
            have K2 := Lib.hid (K1.out.kept hb K1.out.1)
            clear hb HA1 K1 LC1 z0 z1 z2 z3 z4 z5
            cases g1 : right c.cut
            · have HT2 := Lib.hid (HNX.out _ (fun x h => h) (fun h => by rw [g1] at h; cases h))
              clear g1
              go_wp2
              exact ⟨⟨2, b, o, cp, L, by omega, by go_num, rfl, HA2.out, HH.out, HT2.out, by omega⟩, by simp [intOf]⟩
            have G1 := Lib.hid g1
            clear g1
            go_wp2
            go_loopw [10] (fun i W => ∃ m : Nat, m ≤ L.length ∧ i = .int .i64 m ∧ Hid (∀ j, j < m → stand (cutAt (L.map RCut.cut) j) c.cut < 0) ∧ Hid (Below w2.heap.size w2 W)) (fun i _ => L.length - (intOf i).toNat)
            case atStart => exact ⟨0, Nat.zero_le _, rfl, (fun j hj => by omega), Below.refl _ _⟩
            case round =>
              obtain ⟨m, hm, rfl, HM, HW⟩ := hrel
              have HA3 := Lib.hid (HA2.out.kept HW.out)
              have K3 := Lib.hid (K2.out.kept HW.out K2.out.1)
              have LCW := Lib.hid LC.out
              replace LC := Lib.hid (LC.out.kept (HBL.out.trans (HA3.out.bel.mono HBL.out.size)))
              have hlm : L.length ≤ 9223372036854775807 := by omega
              have hbl : b < wr.heap.size := HA3.out.src.1
              obtain ⟨hpc, _, z0, z1, z2, z3, z4, z5⟩ := K3.out
              have HBW : Hid (Below wr.heap.size wr wr) := Below.refl _ _
              by_cases hml : m < L.length
              · have LY : Hid (Lies wr (L.getD m default)) := (HA3.out.lies _ (getC_mem hml)).kept (HBL.out.trans (HA3.out.bel.mono HBL.out.size))
                have RY : Hid (right (L.getD m default).cut = true) := HA3.out.rise.right _ (List.mem_map_of_mem (getC_mem hml))
                have HE := Lib.hid (cut_at_map L m)
                obtain ⟨y0, y1, y2, y3, y4, y5⟩ := HA3.out.src.at hml
                generalize L.getD m default = y at LY RY HE y0 y1 y2 y3 y4 y5
                obtain ⟨d, hd⟩ : ∃ d, cmpC y.cut c.cut = d := ⟨_, rfl⟩
                have HD := Lib.hid hd
                have HS : Hid (stand (cutAt (L.map RCut.cut) m) c.cut = d) := by unfold Hid; rw [HE.out, ← cmpC_right RY.out G1.out]; exact hd
                clear hd HE RY
                go_upto_region 14 with (fail)
                by_cases hd1 : d < 0
                · have HM2 : Hid (∀ j, j < m + 1 → stand (cutAt (L.map RCut.cut) j) c.cut < 0) := fun j hj => by
                    rcases Nat.lt_or_ge j m with g | g
                    · exact HM.out j g
                    · rw [show j = m by omega, HS.out]; exact hd1
                  replace HBW := Lib.hid HBW.out.drew
                  refine wp_region_held_drew (S := fun w' => Below wr.heap.size wr w') (by kernel_rfl) HBW.out (fun hHeld => ?_)
                  refine wpAnyH_take (i := 0) (oi := { dst := some 44, op := Op.move (Operand.tmp 10), type := 3, pos := "ref.go:74", after := #[], guard := none }) (v := .int .i64 (m : Int)) rfl (by kernel_rfl) (by kernel_rfl) (by kernel_rfl) (fun _ _ _ h => h) (Or.inl ⟨by rfl, fun w' hS' => by go_simp⟩) (by assumption) ?_
                  simp only [Act.put, List.setIfInBounds_toArray, List.set_cons_zero, List.set_cons_succ]
                  refine wpAnyH_take (i := 1) (oi := { dst := some 45, op := Op.move (Operand.tmp 5), type := 50, pos := "ref.go:74", after := #[], guard := none }) (v := .slice (some ⟨b, o, none⟩) L.length cp) rfl (by kernel_rfl) (by kernel_rfl) (by kernel_rfl) (fun _ _ _ h => h) (Or.inl ⟨by rfl, fun w' hS' => by go_simp⟩) (by assumption) ?_
                  simp only [Act.put, List.setIfInBounds_toArray, List.set_cons_zero, List.set_cons_succ]
                  refine wpAnyH_take (i := 2) (oi := { dst := some 46, op := Op.call { callee := Callee.builtin Builtin.len, args := #[Operand.tmp 45], argTypes := #[50] }, type := 3, pos := "ref.go:74", after := #[{ on := 1, ground := Ground.data }], guard := none }) (v := .int .i64 (L.length : Int)) rfl (by kernel_rfl) (by kernel_rfl) (by kernel_rfl) (fun _ _ _ h => h) (Or.inl ⟨by rfl, fun w' hS' => by go_simp⟩) (by assumption) ?_
                  simp only [Act.put, List.setIfInBounds_toArray, List.set_cons_zero, List.set_cons_succ]
                  refine wpAnyH_take (i := 3) (oi := { dst := some 47, op := Op.binOp BinOp.lss 3 (Operand.tmp 44) (Operand.tmp 46) 3, type := 4, pos := "ref.go:74", after := #[{ on := 0, ground := Ground.data }, { on := 2, ground := Ground.data }], guard := none }) (v := .bool true) rfl (by kernel_rfl) (by kernel_rfl) (by kernel_rfl) (fun _ _ _ h => h) (Or.inl ⟨by rfl, fun w' hS' => by first | (go_simp; done) | (go_simp; omega)⟩) (by assumption) ?_
                  simp only [Act.put, List.setIfInBounds_toArray, List.set_cons_zero, List.set_cons_succ]
                  refine wpAnyH_take (i := 4) (oi := { dst := some 48, op := Op.move (Operand.tmp 47), type := 4, pos := "ref.go:74", after := #[{ on := 3, ground := Ground.data }], guard := none }) (v := .bool true) rfl (by kernel_rfl) (by kernel_rfl) (by kernel_rfl) (fun _ _ _ h => h) (Or.inl ⟨by rfl, fun w' hS' => by go_simp⟩) (by assumption) ?_
                  simp only [Act.put, List.setIfInBounds_toArray, List.set_cons_zero, List.set_cons_succ]
                  refine wpAnyH_take (i := 5) (oi := { dst := some 49, op := Op.move (Operand.tmp 5), type := 50, pos := "ref.go:74", after := #[{ on := 4, ground := Ground.guard }], guard := some (4, true) }) (v := .slice (some ⟨b, o, none⟩) L.length cp) rfl (by kernel_rfl) (by kernel_rfl) (by kernel_rfl) (fun _ _ _ h => h) (Or.inl ⟨by rfl, fun w' hS' => by go_simp⟩) (by assumption) ?_
                  simp only [Act.put, List.setIfInBounds_toArray, List.set_cons_zero, List.set_cons_succ]
                  refine wpAnyH_take (i := 6) (oi := { dst := some 50, op := Op.move (Operand.tmp 10), type := 3, pos := "ref.go:74", after := #[{ on := 4, ground := Ground.guard }], guard := some (4, true) }) (v := .int .i64 (m : Int)) rfl (by kernel_rfl) (by kernel_rfl) (by kernel_rfl) (fun _ _ _ h => h) (Or.inl ⟨by rfl, fun w' hS' => by go_simp⟩) (by assumption) ?_
                  simp only [Act.put, List.setIfInBounds_toArray, List.set_cons_zero, List.set_cons_succ]
                  refine wpAnyH_take (i := 7) (oi := { dst := some 51, op := Op.indexAddr 50 (Operand.tmp 49) (Operand.tmp 50), type := 0, pos := "ref.go:74", after := #[{ on := 5, ground := Ground.data }, { on := 6, ground := Ground.data }, { on := 4, ground := Ground.guard }], guard := some (4, true) }) (v := .pointer (some ⟨b, o + m * 6, none⟩)) rfl (by kernel_rfl) (by kernel_rfl) (by kernel_rfl) (fun _ _ _ h => h) (Or.inl ⟨by rfl, fun w' hS' => by go_simp⟩) (by assumption) ?_
                  simp only [Act.put, List.setIfInBounds_toArray, List.set_cons_zero, List.set_cons_succ]
                  refine wpAnyH_take (i := 8) (oi := { dst := some 52, op := Op.load 35 (Operand.tmp 51), type := 35, pos := "ref.go:74", after := #[{ on := 7, ground := Ground.data }, { on := 4, ground := Ground.guard }], guard := some (4, true) }) (v := .agg #[.int .i64 y.kind, .int .u64 (y.v.a : Int), .int .u64 (y.v.b : Int), .int .u64 (y.v.c : Int), .slice y.A y.v.pre.length y.c, .slice y.B y.v.build.length y.d]) rfl (by kernel_rfl) (by kernel_rfl) (by kernel_rfl) (fun _ _ _ h => h) (Or.inl ⟨by rfl, fun w' hS' => by have q0 := (hS'.cell (p := ⟨b, o + m * 6, none⟩) hbl).trans y0; have q1 := (hS'.cell (p := ⟨b, o + m * 6 + 1, none⟩) hbl).trans y1; have q2 := (hS'.cell (p := ⟨b, o + m * 6 + 2, none⟩) hbl).trans y2; have q3 := (hS'.cell (p := ⟨b, o + m * 6 + 3, none⟩) hbl).trans y3; have q4 := (hS'.cell (p := ⟨b, o + m * 6 + 4, none⟩) hbl).trans y4; have q5 := (hS'.cell (p := ⟨b, o + m * 6 + 5, none⟩) hbl).trans y5; go_simp⟩) (by assumption) ?_
                  simp only [Act.put, List.setIfInBounds_toArray, List.set_cons_zero, List.set_cons_succ]
                  refine wpAnyH_take (i := 9) (oi := { dst := some 53, op := Op.load 35 (Operand.tmp 9), type := 35, pos := "ref.go:74", after := #[{ on := 4, ground := Ground.guard }], guard := some (4, true) }) (v := .agg #[.int .i64 c.kind, .int .u64 (c.v.a : Int), .int .u64 (c.v.b : Int), .int .u64 (c.v.c : Int), .slice c.A c.v.pre.length c.c, .slice c.B c.v.build.length c.d]) rfl (by kernel_rfl) (by kernel_rfl) (by kernel_rfl) (fun _ _ _ h => h) (Or.inl ⟨by rfl, fun w' hS' => by have q0 := (hS'.cell (p := ⟨pc, 0, none⟩) hpc).trans z0; have q1 := (hS'.cell (p := ⟨pc, 1, none⟩) hpc).trans z1; have q2 := (hS'.cell (p := ⟨pc, 2, none⟩) hpc).trans z2; have q3 := (hS'.cell (p := ⟨pc, 3, none⟩) hpc).trans z3; have q4 := (hS'.cell (p := ⟨pc, 4, none⟩) hpc).trans z4; have q5 := (hS'.cell (p := ⟨pc, 5, none⟩) hpc).trans z5; go_simp⟩) (by assumption) ?_
                  simp only [Act.put, List.setIfInBounds_toArray, List.set_cons_zero, List.set_cons_succ]
                  refine wpAnyH_ready (rs := [10]) (by kernel_rfl) (by simp) ?_
                  refine AllReadyH.cons (o := { dst := some 54, op := Op.call { callee := Callee.value (Operand.func 19), args := #[Operand.tmp 52, Operand.tmp 53], argTypes := #[35, 35] }, type := 3, pos := "ref.go:74", after := #[{ on := 8, ground := Ground.data }, { on := 9, ground := Ground.data }, { on := 4, ground := Ground.chain }, { on := 4, ground := Ground.guard }], guard := some (4, true) }) rfl (fun K hK => ?_) AllReadyH.nil
                  go_simp
                  refine (refCompareC_any y c _ (LY.out.kept HBW.out) (LC.out.kept HBW.out)).mono ?_
                  rintro e wf1 ⟨he, hb⟩
                  rw [HD.out] at he
                  subst he
                  replace HBW := Lib.hid (HBW.out.trans (hb.mono HBW.out.size))
                  clear hb hHeld
                  refine hK.out _ _ HBW.out (fun hHeld => ?_)
                  clear hK K
                  try simp only [Act.put, List.setIfInBounds_toArray, List.set_cons_zero, List.set_cons_succ]
                  refine wpAnyH_take (i := 11) (oi := { dst := some 55, op := Op.binOp BinOp.lss 3 (Operand.tmp 54) (Operand.const (Value.int IntKind.i64 0)) 3, type := 4, pos := "ref.go:74", after := #[{ on := 10, ground := Ground.data }, { on := 4, ground := Ground.guard }], guard := some (4, true) }) (v := .bool true) rfl (by kernel_rfl) (by kernel_rfl) (by kernel_rfl) (fun _ _ _ h => h) (Or.inl ⟨by rfl, fun w' hS' => by first | (go_simp; done) | (go_simp; omega)⟩) (by assumption) ?_
                  simp only [Act.put, List.setIfInBounds_toArray, List.set_cons_zero, List.set_cons_succ]
                  refine wpAnyH_take (i := 12) (oi := { dst := some 56, op := Op.pick (Operand.tmp 48) (Operand.tmp 55) (Operand.const (Value.bool false)), type := 4, pos := "ref.go:74", after := #[{ on := 4, ground := Ground.data }, { on := 11, ground := Ground.data }], guard := none }) (v := .bool true) rfl (by kernel_rfl) (by kernel_rfl) (by kernel_rfl) (fun _ _ _ h => h) (Or.inl ⟨by rfl, fun w' hS' => by go_simp⟩) (by assumption) ?_
                  simp only [Act.put, List.setIfInBounds_toArray, List.set_cons_zero, List.set_cons_succ]
                  refine wpAnyH_done (by kernel_rfl) ?_ _
                  go_wp2
                  exact ⟨⟨m + 1, by omega, by go_num, HM2.out, HW.out.trans (HBW.out.mono HW.out.size)⟩, by simp [intOf]; omega⟩
                replace HBW := Lib.hid HBW.out.drew
                refine wp_region_held_drew (S := fun w' => Below wr.heap.size wr w') (by kernel_rfl) HBW.out (fun hHeld => ?_)
                refine wpAnyH_take (i := 0) (oi := { dst := some 44, op := Op.move (Operand.tmp 10), type := 3, pos := "ref.go:74", after := #[], guard := none }) (v := .int .i64 (m : Int)) rfl (by kernel_rfl) (by kernel_rfl) (by kernel_rfl) (fun _ _ _ h => h) (Or.inl ⟨by rfl, fun w' hS' => by go_simp⟩) (by assumption) ?_
                simp only [Act.put, List.setIfInBounds_toArray, List.set_cons_zero, List.set_cons_succ]
                refine wpAnyH_take (i := 1) (oi := { dst := some 45, op := Op.move (Operand.tmp 5), type := 50, pos := "ref.go:74", after := #[], guard := none }) (v := .slice (some ⟨b, o, none⟩) L.length cp) rfl (by kernel_rfl) (by kernel_rfl) (by kernel_rfl) (fun _ _ _ h => h) (Or.inl ⟨by rfl, fun w' hS' => by go_simp⟩) (by assumption) ?_
                simp only [Act.put, List.setIfInBounds_toArray, List.set_cons_zero, List.set_cons_succ]
                refine wpAnyH_take (i := 2) (oi := { dst := some 46, op := Op.call { callee := Callee.builtin Builtin.len, args := #[Operand.tmp 45], argTypes := #[50] }, type := 3, pos := "ref.go:74", after := #[{ on := 1, ground := Ground.data }], guard := none }) (v := .int .i64 (L.length : Int)) rfl (by kernel_rfl) (by kernel_rfl) (by kernel_rfl) (fun _ _ _ h => h) (Or.inl ⟨by rfl, fun w' hS' => by go_simp⟩) (by assumption) ?_
                simp only [Act.put, List.setIfInBounds_toArray, List.set_cons_zero, List.set_cons_succ]
                refine wpAnyH_take (i := 3) (oi := { dst := some 47, op := Op.binOp BinOp.lss 3 (Operand.tmp 44) (Operand.tmp 46) 3, type := 4, pos := "ref.go:74", after := #[{ on := 0, ground := Ground.data }, { on := 2, ground := Ground.data }], guard := none }) (v := .bool true) rfl (by kernel_rfl) (by kernel_rfl) (by kernel_rfl) (fun _ _ _ h => h) (Or.inl ⟨by rfl, fun w' hS' => by first | (go_simp; done) | (go_simp; omega)⟩) (by assumption) ?_
                simp only [Act.put, List.setIfInBounds_toArray, List.set_cons_zero, List.set_cons_succ]
                refine wpAnyH_take (i := 4) (oi := { dst := some 48, op := Op.move (Operand.tmp 47), type := 4, pos := "ref.go:74", after := #[{ on := 3, ground := Ground.data }], guard := none }) (v := .bool true) rfl (by kernel_rfl) (by kernel_rfl) (by kernel_rfl) (fun _ _ _ h => h) (Or.inl ⟨by rfl, fun w' hS' => by go_simp⟩) (by assumption) ?_
                simp only [Act.put, List.setIfInBounds_toArray, List.set_cons_zero, List.set_cons_succ]
                refine wpAnyH_take (i := 5) (oi := { dst := some 49, op := Op.move (Operand.tmp 5), type := 50, pos := "ref.go:74", after := #[{ on := 4, ground := Ground.guard }], guard := some (4, true) }) (v := .slice (some ⟨b, o, none⟩) L.length cp) rfl (by kernel_rfl) (by kernel_rfl) (by kernel_rfl) (fun _ _ _ h => h) (Or.inl ⟨by rfl, fun w' hS' => by go_simp⟩) (by assumption) ?_
                simp only [Act.put, List.setIfInBounds_toArray, List.set_cons_zero, List.set_cons_succ]
                refine wpAnyH_take (i := 6) (oi := { dst := some 50, op := Op.move (Operand.tmp 10), type := 3, pos := "ref.go:74", after := #[{ on := 4, ground := Ground.guard }], guard := some (4, true) }) (v := .int .i64 (m : Int)) rfl (by kernel_rfl) (by kernel_rfl) (by kernel_rfl) (fun _ _ _ h => h) (Or.inl ⟨by rfl, fun w' hS' => by go_simp⟩) (by assumption) ?_
                simp only [Act.put, List.setIfInBounds_toArray, List.set_cons_zero, List.set_cons_succ]
                refine wpAnyH_take (i := 7) (oi := { dst := some 51, op := Op.indexAddr 50 (Operand.tmp 49) (Operand.tmp 50), type := 0, pos := "ref.go:74", after := #[{ on := 5, ground := Ground.data }, { on := 6, ground := Ground.data }, { on := 4, ground := Ground.guard }], guard := some (4, true) }) (v := .pointer (some ⟨b, o + m * 6, none⟩)) rfl (by kernel_rfl) (by kernel_rfl) (by kernel_rfl) (fun _ _ _ h => h) (Or.inl ⟨by rfl, fun w' hS' => by go_simp⟩) (by assumption) ?_
                simp only [Act.put, List.setIfInBounds_toArray, List.set_cons_zero, List.set_cons_succ]
                refine wpAnyH_take (i := 8) (oi := { dst := some 52, op := Op.load 35 (Operand.tmp 51), type := 35, pos := "ref.go:74", after := #[{ on := 7, ground := Ground.data }, { on := 4, ground := Ground.guard }], guard := some (4, true) }) (v := .agg #[.int .i64 y.kind, .int .u64 (y.v.a : Int), .int .u64 (y.v.b : Int), .int .u64 (y.v.c : Int), .slice y.A y.v.pre.length y.c, .slice y.B y.v.build.length y.d]) rfl (by kernel_rfl) (by kernel_rfl) (by kernel_rfl) (fun _ _ _ h => h) (Or.inl ⟨by rfl, fun w' hS' => by have q0 := (hS'.cell (p := ⟨b, o + m * 6, none⟩) hbl).trans y0; have q1 := (hS'.cell (p := ⟨b, o + m * 6 + 1, none⟩) hbl).trans y1; have q2 := (hS'.cell (p := ⟨b, o + m * 6 + 2, none⟩) hbl).trans y2; have q3 := (hS'.cell (p := ⟨b, o + m * 6 + 3, none⟩) hbl).trans y3; have q4 := (hS'.cell (p := ⟨b, o + m * 6 + 4, none⟩) hbl).trans y4; have q5 := (hS'.cell (p := ⟨b, o + m * 6 + 5, none⟩) hbl).trans y5; go_simp⟩) (by assumption) ?_
                simp only [Act.put, List.setIfInBounds_toArray, List.set_cons_zero, List.set_cons_succ]
                refine wpAnyH_take (i := 9) (oi := { dst := some 53, op := Op.load 35 (Operand.tmp 9), type := 35, pos := "ref.go:74", after := #[{ on := 4, ground := Ground.guard }], guard := some (4, true) }) (v := .agg #[.int .i64 c.kind, .int .u64 (c.v.a : Int), .int .u64 (c.v.b : Int), .int .u64 (c.v.c : Int), .slice c.A c.v.pre.length c.c, .slice c.B c.v.build.length c.d]) rfl (by kernel_rfl) (by kernel_rfl) (by kernel_rfl) (fun _ _ _ h => h) (Or.inl ⟨by rfl, fun w' hS' => by have q0 := (hS'.cell (p := ⟨pc, 0, none⟩) hpc).trans z0; have q1 := (hS'.cell (p := ⟨pc, 1, none⟩) hpc).trans z1; have q2 := (hS'.cell (p := ⟨pc, 2, none⟩) hpc).trans z2; have q3 := (hS'.cell (p := ⟨pc, 3, none⟩) hpc).trans z3; have q4 := (hS'.cell (p := ⟨pc, 4, none⟩) hpc).trans z4; have q5 := (hS'.cell (p := ⟨pc, 5, none⟩) hpc).trans z5; go_simp⟩) (by assumption) ?_
                simp only [Act.put, List.setIfInBounds_toArray, List.set_cons_zero, List.set_cons_succ]
                refine wpAnyH_ready (rs := [10]) (by kernel_rfl) (by simp) ?_
                refine AllReadyH.cons (o := { dst := some 54, op := Op.call { callee := Callee.value (Operand.func 19), args := #[Operand.tmp 52, Operand.tmp 53], argTypes := #[35, 35] }, type := 3, pos := "ref.go:74", after := #[{ on := 8, ground := Ground.data }, { on := 9, ground := Ground.data }, { on := 4, ground := Ground.chain }, { on := 4, ground := Ground.guard }], guard := some (4, true) }) rfl (fun K hK => ?_) AllReadyH.nil
                go_simp
                refine (refCompareC_any y c _ (LY.out.kept HBW.out) (LC.out.kept HBW.out)).mono ?_
                rintro e wf1 ⟨he, hb⟩
                rw [HD.out] at he
                subst he
                replace HBW := Lib.hid (HBW.out.trans (hb.mono HBW.out.size))
                clear hb hHeld
                refine hK.out _ _ HBW.out (fun hHeld => ?_)
                clear hK K
                try simp only [Act.put, List.setIfInBounds_toArray, List.set_cons_zero, List.set_cons_succ]
                refine wpAnyH_take (i := 11) (oi := { dst := some 55, op := Op.binOp BinOp.lss 3 (Operand.tmp 54) (Operand.const (Value.int IntKind.i64 0)) 3, type := 4, pos := "ref.go:74", after := #[{ on := 10, ground := Ground.data }, { on := 4, ground := Ground.guard }], guard := some (4, true) }) (v := .bool false) rfl (by kernel_rfl) (by kernel_rfl) (by kernel_rfl) (fun _ _ _ h => h) (Or.inl ⟨by rfl, fun w' hS' => by first | (go_simp; done) | (go_simp; omega)⟩) (by assumption) ?_
                simp only [Act.put, List.setIfInBounds_toArray, List.set_cons_zero, List.set_cons_succ]
                refine wpAnyH_take (i := 12) (oi := { dst := some 56, op := Op.pick (Operand.tmp 48) (Operand.tmp 55) (Operand.const (Value.bool false)), type := 4, pos := "ref.go:74", after := #[{ on := 4, ground := Ground.data }, { on := 11, ground := Ground.data }], guard := none }) (v := .bool false) rfl (by kernel_rfl) (by kernel_rfl) (by kernel_rfl) (fun _ _ _ h => h) (Or.inl ⟨by rfl, fun w' hS' => by go_simp⟩) (by assumption) ?_
                simp only [Act.put, List.setIfInBounds_toArray, List.set_cons_zero, List.set_cons_succ]
                refine wpAnyH_done (by kernel_rfl) ?_ _
                go_upto_region 16 with (fail)
                by_cases hd0 : d = 0
                · have HT2 := Lib.hid (HNX.out _ (fun x h => h) (fun _ => ⟨m, by rw [List.length_map]; exact hml, by rw [HS.out]; exact hd0⟩))
                  replace HBW := Lib.hid HBW.out.drew
                  refine wp_region_held_drew (S := fun w' => Below wr.heap.size wr w') (by kernel_rfl) HBW.out (fun hHeld => ?_)
                  refine wpAnyH_take (i := 0) (oi := { dst := some 59, op := Op.move (Operand.tmp 10), type := 3, pos := "ref.go:77", after := #[], guard := none }) (v := .int .i64 (m : Int)) rfl (by kernel_rfl) (by kernel_rfl) (by kernel_rfl) (fun _ _ _ h => h) (Or.inl ⟨by rfl, fun w' hS' => by go_simp⟩) (by assumption) ?_
                  simp only [Act.put, List.setIfInBounds_toArray, List.set_cons_zero, List.set_cons_succ]
                  refine wpAnyH_take (i := 1) (oi := { dst := some 60, op := Op.move (Operand.tmp 5), type := 50, pos := "ref.go:77", after := #[], guard := none }) (v := .slice (some ⟨b, o, none⟩) L.length cp) rfl (by kernel_rfl) (by kernel_rfl) (by kernel_rfl) (fun _ _ _ h => h) (Or.inl ⟨by rfl, fun w' hS' => by go_simp⟩) (by assumption) ?_
                  simp only [Act.put, List.setIfInBounds_toArray, List.set_cons_zero, List.set_cons_succ]
                  refine wpAnyH_take (i := 2) (oi := { dst := some 61, op := Op.call { callee := Callee.builtin Builtin.len, args := #[Operand.tmp 60], argTypes := #[50] }, type := 3, pos := "ref.go:77", after := #[{ on := 1, ground := Ground.data }], guard := none }) (v := .int .i64 (L.length : Int)) rfl (by kernel_rfl) (by kernel_rfl) (by kernel_rfl) (fun _ _ _ h => h) (Or.inl ⟨by rfl, fun w' hS' => by go_simp⟩) (by assumption) ?_
                  simp only [Act.put, List.setIfInBounds_toArray, List.set_cons_zero, List.set_cons_succ]
                  refine wpAnyH_take (i := 3) (oi := { dst := some 62, op := Op.binOp BinOp.lss 3 (Operand.tmp 59) (Operand.tmp 61) 3, type := 4, pos := "ref.go:77", after := #[{ on := 0, ground := Ground.data }, { on := 2, ground := Ground.data }], guard := none }) (v := .bool true) rfl (by kernel_rfl) (by kernel_rfl) (by kernel_rfl) (fun _ _ _ h => h) (Or.inl ⟨by rfl, fun w' hS' => by first | (go_simp; done) | (go_simp; omega)⟩) (by assumption) ?_
                  simp only [Act.put, List.setIfInBounds_toArray, List.set_cons_zero, List.set_cons_succ]
                  refine wpAnyH_take (i := 4) (oi := { dst := some 63, op := Op.move (Operand.tmp 62), type := 4, pos := "ref.go:77", after := #[{ on := 3, ground := Ground.data }], guard := none }) (v := .bool true) rfl (by kernel_rfl) (by kernel_rfl) (by kernel_rfl) (fun _ _ _ h => h) (Or.inl ⟨by rfl, fun w' hS' => by go_simp⟩) (by assumption) ?_
                  simp only [Act.put, List.setIfInBounds_toArray, List.set_cons_zero, List.set_cons_succ]
                  refine wpAnyH_take (i := 5) (oi := { dst := some 64, op := Op.move (Operand.tmp 5), type := 50, pos := "ref.go:77", after := #[{ on := 4, ground := Ground.guard }], guard := some (4, true) }) (v := .slice (some ⟨b, o, none⟩) L.length cp) rfl (by kernel_rfl) (by kernel_rfl) (by kernel_rfl) (fun _ _ _ h => h) (Or.inl ⟨by rfl, fun w' hS' => by go_simp⟩) (by assumption) ?_
                  simp only [Act.put, List.setIfInBounds_toArray, List.set_cons_zero, List.set_cons_succ]
                  refine wpAnyH_take (i := 6) (oi := { dst := some 65, op := Op.move (Operand.tmp 10), type := 3, pos := "ref.go:77", after := #[{ on := 4, ground := Ground.guard }], guard := some (4, true) }) (v := .int .i64 (m : Int)) rfl (by kernel_rfl) (by kernel_rfl) (by kernel_rfl) (fun _ _ _ h => h) (Or.inl ⟨by rfl, fun w' hS' => by go_simp⟩) (by assumption) ?_
                  simp only [Act.put, List.setIfInBounds_toArray, List.set_cons_zero, List.set_cons_succ]
                  refine wpAnyH_take (i := 7) (oi := { dst := some 66, op := Op.indexAddr 50 (Operand.tmp 64) (Operand.tmp 65), type := 0, pos := "ref.go:77", after := #[{ on := 5, ground := Ground.data }, { on := 6, ground := Ground.data }, { on := 4, ground := Ground.guard }], guard := some (4, true) }) (v := .pointer (some ⟨b, o + m * 6, none⟩)) rfl (by kernel_rfl) (by kernel_rfl) (by kernel_rfl) (fun _ _ _ h => h) (Or.inl ⟨by rfl, fun w' hS' => by go_simp⟩) (by assumption) ?_
                  simp only [Act.put, List.setIfInBounds_toArray, List.set_cons_zero, List.set_cons_succ]
                  refine wpAnyH_take (i := 8) (oi := { dst := some 67, op := Op.load 35 (Operand.tmp 66), type := 35, pos := "ref.go:77", after := #[{ on := 7, ground := Ground.data }, { on := 4, ground := Ground.guard }], guard := some (4, true) }) (v := .agg #[.int .i64 y.kind, .int .u64 (y.v.a : Int), .int .u64 (y.v.b : Int), .int .u64 (y.v.c : Int), .slice y.A y.v.pre.length y.c, .slice y.B y.v.build.length y.d]) rfl (by kernel_rfl) (by kernel_rfl) (by kernel_rfl) (fun _ _ _ h => h) (Or.inl ⟨by rfl, fun w' hS' => by have q0 := (hS'.cell (p := ⟨b, o + m * 6, none⟩) hbl).trans y0; have q1 := (hS'.cell (p := ⟨b, o + m * 6 + 1, none⟩) hbl).trans y1; have q2 := (hS'.cell (p := ⟨b, o + m * 6 + 2, none⟩) hbl).trans y2; have q3 := (hS'.cell (p := ⟨b, o + m * 6 + 3, none⟩) hbl).trans y3; have q4 := (hS'.cell (p := ⟨b, o + m * 6 + 4, none⟩) hbl).trans y4; have q5 := (hS'.cell (p := ⟨b, o + m * 6 + 5, none⟩) hbl).trans y5; go_simp⟩) (by assumption) ?_
                  simp only [Act.put, List.setIfInBounds_toArray, List.set_cons_zero, List.set_cons_succ]
                  refine wpAnyH_take (i := 9) (oi := { dst := some 68, op := Op.load 35 (Operand.tmp 9), type := 35, pos := "ref.go:77", after := #[{ on := 4, ground := Ground.guard }], guard := some (4, true) }) (v := .agg #[.int .i64 c.kind, .int .u64 (c.v.a : Int), .int .u64 (c.v.b : Int), .int .u64 (c.v.c : Int), .slice c.A c.v.pre.length c.c, .slice c.B c.v.build.length c.d]) rfl (by kernel_rfl) (by kernel_rfl) (by kernel_rfl) (fun _ _ _ h => h) (Or.inl ⟨by rfl, fun w' hS' => by have q0 := (hS'.cell (p := ⟨pc, 0, none⟩) hpc).trans z0; have q1 := (hS'.cell (p := ⟨pc, 1, none⟩) hpc).trans z1; have q2 := (hS'.cell (p := ⟨pc, 2, none⟩) hpc).trans z2; have q3 := (hS'.cell (p := ⟨pc, 3, none⟩) hpc).trans z3; have q4 := (hS'.cell (p := ⟨pc, 4, none⟩) hpc).trans z4; have q5 := (hS'.cell (p := ⟨pc, 5, none⟩) hpc).trans z5; go_simp⟩) (by assumption) ?_
                  simp only [Act.put, List.setIfInBounds_toArray, List.set_cons_zero, List.set_cons_succ]
                  refine wpAnyH_ready (rs := [10]) (by kernel_rfl) (by simp) ?_
                  refine AllReadyH.cons (o := { dst := some 69, op := Op.call { callee := Callee.value (Operand.func 19), args := #[Operand.tmp 67, Operand.tmp 68], argTypes := #[35, 35] }, type := 3, pos := "ref.go:77", after := #[{ on := 8, ground := Ground.data }, { on := 9, ground := Ground.data }, { on := 4, ground := Ground.chain }, { on := 4, ground := Ground.guard }], guard := some (4, true) }) rfl (fun K hK => ?_) AllReadyH.nil
                  go_simp
                  refine (refCompareC_any y c _ (LY.out.kept HBW.out) (LC.out.kept HBW.out)).mono ?_
                  rintro e wg1 ⟨he, hb⟩
                  rw [HD.out] at he
                  subst he
                  replace HBW := Lib.hid (HBW.out.trans (hb.mono HBW.out.size))
                  clear hb hHeld
                  refine hK.out _ _ HBW.out (fun hHeld => ?_)
                  clear hK K
                  try simp only [Act.put, List.setIfInBounds_toArray, List.set_cons_zero, List.set_cons_succ]
                  refine wpAnyH_take (i := 11) (oi := { dst := some 70, op := Op.binOp BinOp.eql 3 (Operand.tmp 69) (Operand.const (Value.int IntKind.i64 0)) 3, type := 4, pos := "ref.go:77", after := #[{ on := 10, ground := Ground.data }, { on := 4, ground := Ground.guard }], guard := some (4, true) }) (v := .bool true) rfl (by kernel_rfl) (by kernel_rfl) (by kernel_rfl) (fun _ _ _ h => h) (Or.inl ⟨by rfl, fun w' hS' => by first | (go_simp; done) | (go_simp; omega)⟩) (by assumption) ?_
                  simp only [Act.put, List.setIfInBounds_toArray, List.set_cons_zero, List.set_cons_succ]
                  refine wpAnyH_take (i := 12) (oi := { dst := some 71, op := Op.pick (Operand.tmp 63) (Operand.tmp 70) (Operand.const (Value.bool false)), type := 4, pos := "ref.go:77", after := #[{ on := 4, ground := Ground.data }, { on := 11, ground := Ground.data }], guard := none }) (v := .bool true) rfl (by kernel_rfl) (by kernel_rfl) (by kernel_rfl) (fun _ _ _ h => h) (Or.inl ⟨by rfl, fun w' hS' => by go_simp⟩) (by assumption) ?_
                  simp only [Act.put, List.setIfInBounds_toArray, List.set_cons_zero, List.set_cons_succ]
                  refine wpAnyH_done (by kernel_rfl) ?_ _
                  have HA4 := Lib.hid (HA3.out.kept HBW.out)
                  go_wp2
                  exact ⟨⟨2, b, o, cp, L, by omega, by go_num, rfl, HA4.out, HH.out, HT2.out, by omega⟩, by simp [intOf]⟩
                have HJ : Hid (m = (L.map RCut.cut).length ∨ 0 < stand (cutAt (L.map RCut.cut) m) c.cut) := .inr (by rw [HS.out]; omega)
                replace HBW := Lib.hid HBW.out.drew
                refine wp_region_held_drew (S := fun w' => Below wr.heap.size wr w') (by kernel_rfl) HBW.out (fun hHeld => ?_)
                refine wpAnyH_take (i := 0) (oi := { dst := some 59, op := Op.move (Operand.tmp 10), type := 3, pos := "ref.go:77", after := #[], guard := none }) (v := .int .i64 (m : Int)) rfl (by kernel_rfl) (by kernel_rfl) (by kernel_rfl) (fun _ _ _ h => h) (Or.inl ⟨by rfl, fun w' hS' => by go_simp⟩) (by assumption) ?_
                simp only [Act.put, List.setIfInBounds_toArray, List.set_cons_zero, List.set_cons_succ]
                refine wpAnyH_take (i := 1) (oi := { dst := some 60, op := Op.move (Operand.tmp 5), type := 50, pos := "ref.go:77", after := #[], guard := none }) (v := .slice (some ⟨b, o, none⟩) L.length cp) rfl (by kernel_rfl) (by kernel_rfl) (by kernel_rfl) (fun _ _ _ h => h) (Or.inl ⟨by rfl, fun w' hS' => by go_simp⟩) (by assumption) ?_
                simp only [Act.put, List.setIfInBounds_toArray, List.set_cons_zero, List.set_cons_succ]
                refine wpAnyH_take (i := 2) (oi := { dst := some 61, op := Op.call { callee := Callee.builtin Builtin.len, args := #[Operand.tmp 60], argTypes := #[50] }, type := 3, pos := "ref.go:77", after := #[{ on := 1, ground := Ground.data }], guard := none }) (v := .int .i64 (L.length : Int)) rfl (by kernel_rfl) (by kernel_rfl) (by kernel_rfl) (fun _ _ _ h => h) (Or.inl ⟨by rfl, fun w' hS' => by go_simp⟩) (by assumption) ?_
                simp only [Act.put, List.setIfInBounds_toArray, List.set_cons_zero, List.set_cons_succ]
                refine wpAnyH_take (i := 3) (oi := { dst := some 62, op := Op.binOp BinOp.lss 3 (Operand.tmp 59) (Operand.tmp 61) 3, type := 4, pos := "ref.go:77", after := #[{ on := 0, ground := Ground.data }, { on := 2, ground := Ground.data }], guard := none }) (v := .bool true) rfl (by kernel_rfl) (by kernel_rfl) (by kernel_rfl) (fun _ _ _ h => h) (Or.inl ⟨by rfl, fun w' hS' => by first | (go_simp; done) | (go_simp; omega)⟩) (by assumption) ?_
                simp only [Act.put, List.setIfInBounds_toArray, List.set_cons_zero, List.set_cons_succ]
                refine wpAnyH_take (i := 4) (oi := { dst := some 63, op := Op.move (Operand.tmp 62), type := 4, pos := "ref.go:77", after := #[{ on := 3, ground := Ground.data }], guard := none }) (v := .bool true) rfl (by kernel_rfl) (by kernel_rfl) (by kernel_rfl) (fun _ _ _ h => h) (Or.inl ⟨by rfl, fun w' hS' => by go_simp⟩) (by assumption) ?_
                simp only [Act.put, List.setIfInBounds_toArray, List.set_cons_zero, List.set_cons_succ]
                refine wpAnyH_take (i := 5) (oi := { dst := some 64, op := Op.move (Operand.tmp 5), type := 50, pos := "ref.go:77", after := #[{ on := 4, ground := Ground.guard }], guard := some (4, true) }) (v := .slice (some ⟨b, o, none⟩) L.length cp) rfl (by kernel_rfl) (by kernel_rfl) (by kernel_rfl) (fun _ _ _ h => h) (Or.inl ⟨by rfl, fun w' hS' => by go_simp⟩) (by assumption) ?_
                simp only [Act.put, List.setIfInBounds_toArray, List.set_cons_zero, List.set_cons_succ]
                refine wpAnyH_take (i := 6) (oi := { dst := some 65, op := Op.move (Operand.tmp 10), type := 3, pos := "ref.go:77", after := #[{ on := 4, ground := Ground.guard }], guard := some (4, true) }) (v := .int .i64 (m : Int)) rfl (by kernel_rfl) (by kernel_rfl) (by kernel_rfl) (fun _ _ _ h => h) (Or.inl ⟨by rfl, fun w' hS' => by go_simp⟩) (by assumption) ?_
                simp only [Act.put, List.setIfInBounds_toArray, List.set_cons_zero, List.set_cons_succ]
                refine wpAnyH_take (i := 7) (oi := { dst := some 66, op := Op.indexAddr 50 (Operand.tmp 64) (Operand.tmp 65), type := 0, pos := "ref.go:77", after := #[{ on := 5, ground := Ground.data }, { on := 6, ground := Ground.data }, { on := 4, ground := Ground.guard }], guard := some (4, true) }) (v := .pointer (some ⟨b, o + m * 6, none⟩)) rfl (by kernel_rfl) (by kernel_rfl) (by kernel_rfl) (fun _ _ _ h => h) (Or.inl ⟨by rfl, fun w' hS' => by go_simp⟩) (by assumption) ?_
                simp only [Act.put, List.setIfInBounds_toArray, List.set_cons_zero, List.set_cons_succ]
                refine wpAnyH_take (i := 8) (oi := { dst := some 67, op := Op.load 35 (Operand.tmp 66), type := 35, pos := "ref.go:77", after := #[{ on := 7, ground := Ground.data }, { on := 4, ground := Ground.guard }], guard := some (4, true) }) (v := .agg #[.int .i64 y.kind, .int .u64 (y.v.a : Int), .int .u64 (y.v.b : Int), .int .u64 (y.v.c : Int), .slice y.A y.v.pre.length y.c, .slice y.B y.v.build.length y.d]) rfl (by kernel_rfl) (by kernel_rfl) (by kernel_rfl) (fun _ _ _ h => h) (Or.inl ⟨by rfl, fun w' hS' => by have q0 := (hS'.cell (p := ⟨b, o + m * 6, none⟩) hbl).trans y0; have q1 := (hS'.cell (p := ⟨b, o + m * 6 + 1, none⟩) hbl).trans y1; have q2 := (hS'.cell (p := ⟨b, o + m * 6 + 2, none⟩) hbl).trans y2; have q3 := (hS'.cell (p := ⟨b, o + m * 6 + 3, none⟩) hbl).trans y3; have q4 := (hS'.cell (p := ⟨b, o + m * 6 + 4, none⟩) hbl).trans y4; have q5 := (hS'.cell (p := ⟨b, o + m * 6 + 5, none⟩) hbl).trans y5; go_simp⟩) (by assumption) ?_
                simp only [Act.put, List.setIfInBounds_toArray, List.set_cons_zero, List.set_cons_succ]
                refine wpAnyH_take (i := 9) (oi := { dst := some 68, op := Op.load 35 (Operand.tmp 9), type := 35, pos := "ref.go:77", after := #[{ on := 4, ground := Ground.guard }], guard := some (4, true) }) (v := .agg #[.int .i64 c.kind, .int .u64 (c.v.a : Int), .int .u64 (c.v.b : Int), .int .u64 (c.v.c : Int), .slice c.A c.v.pre.length c.c, .slice c.B c.v.build.length c.d]) rfl (by kernel_rfl) (by kernel_rfl) (by kernel_rfl) (fun _ _ _ h => h) (Or.inl ⟨by rfl, fun w' hS' => by have q0 := (hS'.cell (p := ⟨pc, 0, none⟩) hpc).trans z0; have q1 := (hS'.cell (p := ⟨pc, 1, none⟩) hpc).trans z1; have q2 := (hS'.cell (p := ⟨pc, 2, none⟩) hpc).trans z2; have q3 := (hS'.cell (p := ⟨pc, 3, none⟩) hpc).trans z3; have q4 := (hS'.cell (p := ⟨pc, 4, none⟩) hpc).trans z4; have q5 := (hS'.cell (p := ⟨pc, 5, none⟩) hpc).trans z5; go_simp⟩) (by assumption) ?_
                simp only [Act.put, List.setIfInBounds_toArray, List.set_cons_zero, List.set_cons_succ]
                refine wpAnyH_ready (rs := [10]) (by kernel_rfl) (by simp) ?_
                refine AllReadyH.cons (o := { dst := some 69, op := Op.call { callee := Callee.value (Operand.func 19), args := #[Operand.tmp 67, Operand.tmp 68], argTypes := #[35, 35] }, type := 3, pos := "ref.go:77", after := #[{ on := 8, ground := Ground.data }, { on := 9, ground := Ground.data }, { on := 4, ground := Ground.chain }, { on := 4, ground := Ground.guard }], guard := some (4, true) }) rfl (fun K hK => ?_) AllReadyH.nil
                go_simp
                refine (refCompareC_any y c _ (LY.out.kept HBW.out) (LC.out.kept HBW.out)).mono ?_
                rintro e wg1 ⟨he, hb⟩
                rw [HD.out] at he
                subst he
                replace HBW := Lib.hid (HBW.out.trans (hb.mono HBW.out.size))
                clear hb hHeld
                refine hK.out _ _ HBW.out (fun hHeld => ?_)
                clear hK K
                try simp only [Act.put, List.setIfInBounds_toArray, List.set_cons_zero, List.set_cons_succ]
                refine wpAnyH_take (i := 11) (oi := { dst := some 70, op := Op.binOp BinOp.eql 3 (Operand.tmp 69) (Operand.const (Value.int IntKind.i64 0)) 3, type := 4, pos := "ref.go:77", after := #[{ on := 10, ground := Ground.data }, { on := 4, ground := Ground.guard }], guard := some (4, true) }) (v := .bool false) rfl (by kernel_rfl) (by kernel_rfl) (by kernel_rfl) (fun _ _ _ h => h) (Or.inl ⟨by rfl, fun w' hS' => by first | (go_simp; done) | (go_simp; omega)⟩) (by assumption) ?_
                simp only [Act.put, List.setIfInBounds_toArray, List.set_cons_zero, List.set_cons_succ]
                refine wpAnyH_take (i := 12) (oi := { dst := some 71, op := Op.pick (Operand.tmp 63) (Operand.tmp 70) (Operand.const (Value.bool false)), type := 4, pos := "ref.go:77", after := #[{ on := 4, ground := Ground.data }, { on := 11, ground := Ground.data }], guard := none }) (v := .bool false) rfl (by kernel_rfl) (by kernel_rfl) (by kernel_rfl) (fun _ _ _ h => h) (Or.inl ⟨by rfl, fun w' hS' => by go_simp⟩) (by assumption) ?_
                simp only [Act.put, List.setIfInBounds_toArray, List.set_cons_zero, List.set_cons_succ]
                refine wpAnyH_done (by kernel_rfl) ?_ _
                clear y0 y1 y2 y3 y4 y5 LY HD HS hd0 hd1
                go_upto_region 17 with (fail)
                generalize wg1 = wz at HBW ⊢
                have HA7 := Lib.hid (HA3.out.kept HBW.out)
                have K7 := Lib.hid (K3.out.kept HBW.out hpc)
                refine ins17 w w5 wz b o cp m pc L c _ _ _ _ _ _ _ _ _ _ _ _ _ _ _ _ _ _ _ _ _ _ _ _ _ _ _ _ _ _ _ _ _ _ _ _ _ _ _ _ _ _ _ _ _ _ _ _ _ _ _ _ _ _ _ _ _ _ _ _ _ _ _ _ _ _ _ _ _ _ _ _ _ _ _ _ _ _ _ _ _ _ hm (by omega) HA7.out K7.out (fun _ _ _ _ _ h => h) ?_
                intro g' cp' L' W' t0 t1 t2 t3 t4 t5 t6 t7 t8 t9 t10 t11 hL' k3 k1 k2 hB
                have HLL := Lib.hid hL'
                have hl2 : L'.length = L.length + 1 := by rw [← hL']; simp; omega
                have HF1 : Hid (Rise (L'.map RCut.cut)) := by unfold Hid; rw [← hL', ins_map]; exact HA3.out.rise.ins G1.out HM.out (by rw [List.length_map]; exact hm) HJ.out
                have HF2 : Hid (∀ r ∈ L', Lies w r) := fun x hx => by
                  rw [← HLL.out] at hx
                  rcases List.mem_append.1 hx with hx | hx
                  · exact HA3.out.lies x (List.mem_of_mem_take hx)
                  · rcases List.mem_cons.1 hx with rfl | hx
                    · exact LCW.out
                    · exact HA3.out.lies x (List.mem_of_mem_drop hx)
                have HF3 : Hid (HitsAll (L'.map RCut.cut) ((all.take k).map RSp.sp)) := by unfold Hid; rw [← hL', ins_map]; exact HH.out.more ins_mem
                have HF4 := Lib.hid (HNX.out (L'.map RCut.cut) (by rw [← hL', ins_map]; exact ins_mem) (fun _ => by rw [← hL', ins_map]; exact ins_hits))
                have HAF : Hid (CutsAt w w5 g' 0 cp' L' W') := ⟨k3, HF2.out, HF1.out, k1, k2, HA7.out.bel.trans (hB.mono HA7.out.bel.size)⟩
                clear hL' hB k1 k2 k3 HJ
                go_wp2
                exact ⟨⟨2, g', 0, cp', L', by omega, by go_num, rfl, HAF.out, HF3.out, HF4.out, by omega⟩, by simp [intOf]⟩
              · have HJ : Hid (m = (L.map RCut.cut).length ∨ 0 < stand (cutAt (L.map RCut.cut) m) c.cut) := .inl (by rw [List.length_map]; omega)
                go_upto_region 14 with (fail)
                replace HBW := Lib.hid HBW.out.drew
                refine wp_region_held_drew (S := fun w' => Below wr.heap.size wr w') (by kernel_rfl) HBW.out (fun hHeld => ?_)
                refine wpAnyH_take (i := 0) (oi := { dst := some 44, op := Op.move (Operand.tmp 10), type := 3, pos := "ref.go:74", after := #[], guard := none }) (v := .int .i64 (m : Int)) rfl (by kernel_rfl) (by kernel_rfl) (by kernel_rfl) (fun _ _ _ h => h) (Or.inl ⟨by rfl, fun w' hS' => by go_simp⟩) (by assumption) ?_
                simp only [Act.put, List.setIfInBounds_toArray, List.set_cons_zero, List.set_cons_succ]
                refine wpAnyH_take (i := 1) (oi := { dst := some 45, op := Op.move (Operand.tmp 5), type := 50, pos := "ref.go:74", after := #[], guard := none }) (v := .slice (some ⟨b, o, none⟩) L.length cp) rfl (by kernel_rfl) (by kernel_rfl) (by kernel_rfl) (fun _ _ _ h => h) (Or.inl ⟨by rfl, fun w' hS' => by go_simp⟩) (by assumption) ?_
                simp only [Act.put, List.setIfInBounds_toArray, List.set_cons_zero, List.set_cons_succ]
                refine wpAnyH_take (i := 2) (oi := { dst := some 46, op := Op.call { callee := Callee.builtin Builtin.len, args := #[Operand.tmp 45], argTypes := #[50] }, type := 3, pos := "ref.go:74", after := #[{ on := 1, ground := Ground.data }], guard := none }) (v := .int .i64 (L.length : Int)) rfl (by kernel_rfl) (by kernel_rfl) (by kernel_rfl) (fun _ _ _ h => h) (Or.inl ⟨by rfl, fun w' hS' => by go_simp⟩) (by assumption) ?_
                simp only [Act.put, List.setIfInBounds_toArray, List.set_cons_zero, List.set_cons_succ]
                refine wpAnyH_take (i := 3) (oi := { dst := some 47, op := Op.binOp BinOp.lss 3 (Operand.tmp 44) (Operand.tmp 46) 3, type := 4, pos := "ref.go:74", after := #[{ on := 0, ground := Ground.data }, { on := 2, ground := Ground.data }], guard := none }) (v := .bool false) rfl (by kernel_rfl) (by kernel_rfl) (by kernel_rfl) (fun _ _ _ h => h) (Or.inl ⟨by rfl, fun w' hS' => by first | (go_simp; done) | (go_simp; omega)⟩) (by assumption) ?_
                simp only [Act.put, List.setIfInBounds_toArray, List.set_cons_zero, List.set_cons_succ]
                refine wpAnyH_take (i := 4) (oi := { dst := some 48, op := Op.move (Operand.tmp 47), type := 4, pos := "ref.go:74", after := #[{ on := 3, ground := Ground.data }], guard := none }) (v := .bool false) rfl (by kernel_rfl) (by kernel_rfl) (by kernel_rfl) (fun _ _ _ h => h) (Or.inl ⟨by rfl, fun w' hS' => by go_simp⟩) (by assumption) ?_
                simp only [Act.put, List.setIfInBounds_toArray, List.set_cons_zero, List.set_cons_succ]
                refine wpAnyH_take (i := 5) (oi := { dst := some 49, op := Op.move (Operand.tmp 5), type := 50, pos := "ref.go:74", after := #[{ on := 4, ground := Ground.guard }], guard := some (4, true) }) (v := undef) rfl (by kernel_rfl) (by kernel_rfl) (by kernel_rfl) (fun _ _ _ h => h) (Or.inr ⟨by rfl, rfl⟩) (by assumption) ?_
                simp only [Act.put, List.setIfInBounds_toArray, List.set_cons_zero, List.set_cons_succ]
                refine wpAnyH_take (i := 6) (oi := { dst := some 50, op := Op.move (Operand.tmp 10), type := 3, pos := "ref.go:74", after := #[{ on := 4, ground := Ground.guard }], guard := some (4, true) }) (v := undef) rfl (by kernel_rfl) (by kernel_rfl) (by kernel_rfl) (fun _ _ _ h => h) (Or.inr ⟨by rfl, rfl⟩) (by assumption) ?_
                simp only [Act.put, List.setIfInBounds_toArray, List.set_cons_zero, List.set_cons_succ]
                refine wpAnyH_take (i := 7) (oi := { dst := some 51, op := Op.indexAddr 50 (Operand.tmp 49) (Operand.tmp 50), type := 0, pos := "ref.go:74", after := #[{ on := 5, ground := Ground.data }, { on := 6, ground := Ground.data }, { on := 4, ground := Ground.guard }], guard := some (4, true) }) (v := undef) rfl (by kernel_rfl) (by kernel_rfl) (by kernel_rfl) (fun _ _ _ h => h) (Or.inr ⟨by rfl, rfl⟩) (by assumption) ?_
                simp only [Act.put, List.setIfInBounds_toArray, List.set_cons_zero, List.set_cons_succ]
                refine wpAnyH_take (i := 8) (oi := { dst := some 52, op := Op.load 35 (Operand.tmp 51), type := 35, pos := "ref.go:74", after := #[{ on := 7, ground := Ground.data }, { on := 4, ground := Ground.guard }], guard := some (4, true) }) (v := undef) rfl (by kernel_rfl) (by kernel_rfl) (by kernel_rfl) (fun _ _ _ h => h) (Or.inr ⟨by rfl, rfl⟩) (by assumption) ?_
                simp only [Act.put, List.setIfInBounds_toArray, List.set_cons_zero, List.set_cons_succ]
                refine wpAnyH_take (i := 9) (oi := { dst := some 53, op := Op.load 35 (Operand.tmp 9), type := 35, pos := "ref.go:74", after := #[{ on := 4, ground := Ground.guard }], guard := some (4, true) }) (v := undef) rfl (by kernel_rfl) (by kernel_rfl) (by kernel_rfl) (fun _ _ _ h => h) (Or.inr ⟨by rfl, rfl⟩) (by assumption) ?_
                simp only [Act.put, List.setIfInBounds_toArray, List.set_cons_zero, List.set_cons_succ]
                refine wpAnyH_take (i := 10) (oi := { dst := some 54, op := Op.call { callee := Callee.value (Operand.func 19), args := #[Operand.tmp 52, Operand.tmp 53], argTypes := #[35, 35] }, type := 3, pos := "ref.go:74", after := #[{ on := 8, ground := Ground.data }, { on := 9, ground := Ground.data }, { on := 4, ground := Ground.chain }, { on := 4, ground := Ground.guard }], guard := some (4, true) }) (v := undef) rfl (by kernel_rfl) (by kernel_rfl) (by kernel_rfl) (fun _ _ _ h => h) (Or.inr ⟨by rfl, rfl⟩) (by assumption) ?_
                simp only [Act.put, List.setIfInBounds_toArray, List.set_cons_zero, List.set_cons_succ]
                refine wpAnyH_take (i := 11) (oi := { dst := some 55, op := Op.binOp BinOp.lss 3 (Operand.tmp 54) (Operand.const (Value.int IntKind.i64 0)) 3, type := 4, pos := "ref.go:74", after := #[{ on := 10, ground := Ground.data }, { on := 4, ground := Ground.guard }], guard := some (4, true) }) (v := undef) rfl (by kernel_rfl) (by kernel_rfl) (by kernel_rfl) (fun _ _ _ h => h) (Or.inr ⟨by rfl, rfl⟩) (by assumption) ?_
                simp only [Act.put, List.setIfInBounds_toArray, List.set_cons_zero, List.set_cons_succ]
                refine wpAnyH_take (i := 12) (oi := { dst := some 56, op := Op.pick (Operand.tmp 48) (Operand.tmp 55) (Operand.const (Value.bool false)), type := 4, pos := "ref.go:74", after := #[{ on := 4, ground := Ground.data }, { on := 11, ground := Ground.data }], guard := none }) (v := .bool false) rfl (by kernel_rfl) (by kernel_rfl) (by kernel_rfl) (fun _ _ _ h => h) (Or.inl ⟨by rfl, fun w' hS' => by go_simp⟩) (by assumption) ?_
                simp only [Act.put, List.setIfInBounds_toArray, List.set_cons_zero, List.set_cons_succ]
                refine wpAnyH_done (by kernel_rfl) ?_ _
                go_upto_region 16 with (fail)
                replace HBW := Lib.hid HBW.out.drew
                refine wp_region_held_drew (S := fun w' => Below wr.heap.size wr w') (by kernel_rfl) HBW.out (fun hHeld => ?_)
                refine wpAnyH_take (i := 0) (oi := { dst := some 59, op := Op.move (Operand.tmp 10), type := 3, pos := "ref.go:77", after := #[], guard := none }) (v := .int .i64 (m : Int)) rfl (by kernel_rfl) (by kernel_rfl) (by kernel_rfl) (fun _ _ _ h => h) (Or.inl ⟨by rfl, fun w' hS' => by go_simp⟩) (by assumption) ?_
                simp only [Act.put, List.setIfInBounds_toArray, List.set_cons_zero, List.set_cons_succ]
                refine wpAnyH_take (i := 1) (oi := { dst := some 60, op := Op.move (Operand.tmp 5), type := 50, pos := "ref.go:77", after := #[], guard := none }) (v := .slice (some ⟨b, o, none⟩) L.length cp) rfl (by kernel_rfl) (by kernel_rfl) (by kernel_rfl) (fun _ _ _ h => h) (Or.inl ⟨by rfl, fun w' hS' => by go_simp⟩) (by assumption) ?_
                simp only [Act.put, List.setIfInBounds_toArray, List.set_cons_zero, List.set_cons_succ]
                refine wpAnyH_take (i := 2) (oi := { dst := some 61, op := Op.call { callee := Callee.builtin Builtin.len, args := #[Operand.tmp 60], argTypes := #[50] }, type := 3, pos := "ref.go:77", after := #[{ on := 1, ground := Ground.data }], guard := none }) (v := .int .i64 (L.length : Int)) rfl (by kernel_rfl) (by kernel_rfl) (by kernel_rfl) (fun _ _ _ h => h) (Or.inl ⟨by rfl, fun w' hS' => by go_simp⟩) (by assumption) ?_
                simp only [Act.put, List.setIfInBounds_toArray, List.set_cons_zero, List.set_cons_succ]
                refine wpAnyH_take (i := 3) (oi := { dst := some 62, op := Op.binOp BinOp.lss 3 (Operand.tmp 59) (Operand.tmp 61) 3, type := 4, pos := "ref.go:77", after := #[{ on := 0, ground := Ground.data }, { on := 2, ground := Ground.data }], guard := none }) (v := .bool false) rfl (by kernel_rfl) (by kernel_rfl) (by kernel_rfl) (fun _ _ _ h => h) (Or.inl ⟨by rfl, fun w' hS' => by first | (go_simp; done) | (go_simp; omega)⟩) (by assumption) ?_
                simp only [Act.put, List.setIfInBounds_toArray, List.set_cons_zero, List.set_cons_succ]
                refine wpAnyH_take (i := 4) (oi := { dst := some 63, op := Op.move (Operand.tmp 62), type := 4, pos := "ref.go:77", after := #[{ on := 3, ground := Ground.data }], guard := none }) (v := .bool false) rfl (by kernel_rfl) (by kernel_rfl) (by kernel_rfl) (fun _ _ _ h => h) (Or.inl ⟨by rfl, fun w' hS' => by go_simp⟩) (by assumption) ?_
                simp only [Act.put, List.setIfInBounds_toArray, List.set_cons_zero, List.set_cons_succ]
                refine wpAnyH_take (i := 5) (oi := { dst := some 64, op := Op.move (Operand.tmp 5), type := 50, pos := "ref.go:77", after := #[{ on := 4, ground := Ground.guard }], guard := some (4, true) }) (v := undef) rfl (by kernel_rfl) (by kernel_rfl) (by kernel_rfl) (fun _ _ _ h => h) (Or.inr ⟨by rfl, rfl⟩) (by assumption) ?_
                simp only [Act.put, List.setIfInBounds_toArray, List.set_cons_zero, List.set_cons_succ]
                refine wpAnyH_take (i := 6) (oi := { dst := some 65, op := Op.move (Operand.tmp 10), type := 3, pos := "ref.go:77", after := #[{ on := 4, ground := Ground.guard }], guard := some (4, true) }) (v := undef) rfl (by kernel_rfl) (by kernel_rfl) (by kernel_rfl) (fun _ _ _ h => h) (Or.inr ⟨by rfl, rfl⟩) (by assumption) ?_
                simp only [Act.put, List.setIfInBounds_toArray, List.set_cons_zero, List.set_cons_succ]
                refine wpAnyH_take (i := 7) (oi := { dst := some 66, op := Op.indexAddr 50 (Operand.tmp 64) (Operand.tmp 65), type := 0, pos := "ref.go:77", after := #[{ on := 5, ground := Ground.data }, { on := 6, ground := Ground.data }, { on := 4, ground := Ground.guard }], guard := some (4, true) }) (v := undef) rfl (by kernel_rfl) (by kernel_rfl) (by kernel_rfl) (fun _ _ _ h => h) (Or.inr ⟨by rfl, rfl⟩) (by assumption) ?_
                simp only [Act.put, List.setIfInBounds_toArray, List.set_cons_zero, List.set_cons_succ]
                refine wpAnyH_take (i := 8) (oi := { dst := some 67, op := Op.load 35 (Operand.tmp 66), type := 35, pos := "ref.go:77", after := #[{ on := 7, ground := Ground.data }, { on := 4, ground := Ground.guard }], guard := some (4, true) }) (v := undef) rfl (by kernel_rfl) (by kernel_rfl) (by kernel_rfl) (fun _ _ _ h => h) (Or.inr ⟨by rfl, rfl⟩) (by assumption) ?_
                simp only [Act.put, List.setIfInBounds_toArray, List.set_cons_zero, List.set_cons_succ]
                refine wpAnyH_take (i := 9) (oi := { dst := some 68, op := Op.load 35 (Operand.tmp 9), type := 35, pos := "ref.go:77", after := #[{ on := 4, ground := Ground.guard }], guard := some (4, true) }) (v := undef) rfl (by kernel_rfl) (by kernel_rfl) (by kernel_rfl) (fun _ _ _ h => h) (Or.inr ⟨by rfl, rfl⟩) (by assumption) ?_
                simp only [Act.put, List.setIfInBounds_toArray, List.set_cons_zero, List.set_cons_succ]
                refine wpAnyH_take (i := 10) (oi := { dst := some 69, op := Op.call { callee := Callee.value (Operand.func 19), args := #[Operand.tmp 67, Operand.tmp 68], argTypes := #[35, 35] }, type := 3, pos := "ref.go:77", after := #[{ on := 8, ground := Ground.data }, { on := 9, ground := Ground.data }, { on := 4, ground := Ground.chain }, { on := 4, ground := Ground.guard }], guard := some (4, true) }) (v := undef) rfl (by kernel_rfl) (by kernel_rfl) (by kernel_rfl) (fun _ _ _ h => h) (Or.inr ⟨by rfl, rfl⟩) (by assumption) ?_
                simp only [Act.put, List.setIfInBounds_toArray, List.set_cons_zero, List.set_cons_succ]
                refine wpAnyH_take (i := 11) (oi := { dst := some 70, op := Op.binOp BinOp.eql 3 (Operand.tmp 69) (Operand.const (Value.int IntKind.i64 0)) 3, type := 4, pos := "ref.go:77", after := #[{ on := 10, ground := Ground.data }, { on := 4, ground := Ground.guard }], guard := some (4, true) }) (v := undef) rfl (by kernel_rfl) (by kernel_rfl) (by kernel_rfl) (fun _ _ _ h => h) (Or.inr ⟨by rfl, rfl⟩) (by assumption) ?_
                simp only [Act.put, List.setIfInBounds_toArray, List.set_cons_zero, List.set_cons_succ]
                refine wpAnyH_take (i := 12) (oi := { dst := some 71, op := Op.pick (Operand.tmp 63) (Operand.tmp 70) (Operand.const (Value.bool false)), type := 4, pos := "ref.go:77", after := #[{ on := 4, ground := Ground.data }, { on := 11, ground := Ground.data }], guard := none }) (v := .bool false) rfl (by kernel_rfl) (by kernel_rfl) (by kernel_rfl) (fun _ _ _ h => h) (Or.inl ⟨by rfl, fun w' hS' => by go_simp⟩) (by assumption) ?_
                simp only [Act.put, List.setIfInBounds_toArray, List.set_cons_zero, List.set_cons_succ]
                refine wpAnyH_done (by kernel_rfl) ?_ _
                go_upto_region 17 with (fail)
                generalize wr.drew.drew = wz at HBW ⊢
                have HA7 := Lib.hid (HA3.out.kept HBW.out)
                have K7 := Lib.hid (K3.out.kept HBW.out hpc)
                refine ins17 w w5 wz b o cp m pc L c _ _ _ _ _ _ _ _ _ _ _ _ _ _ _ _ _ _ _ _ _ _ _ _ _ _ _ _ _ _ _ _ _ _ _ _ _ _ _ _ _ _ _ _ _ _ _ _ _ _ _ _ _ _ _ _ _ _ _ _ _ _ _ _ _ _ _ _ _ _ _ _ _ _ _ _ _ _ _ _ _ _ hm (by omega) HA7.out K7.out (fun _ _ _ _ _ h => h) ?_
                intro g' cp' L' W' t0 t1 t2 t3 t4 t5 t6 t7 t8 t9 t10 t11 hL' k3 k1 k2 hB
                have HLL := Lib.hid hL'
                have hl2 : L'.length = L.length + 1 := by rw [← hL']; simp; omega
                have HF1 : Hid (Rise (L'.map RCut.cut)) := by unfold Hid; rw [← hL', ins_map]; exact HA3.out.rise.ins G1.out HM.out (by rw [List.length_map]; exact hm) HJ.out
                have HF2 : Hid (∀ r ∈ L', Lies w r) := fun x hx => by
                  rw [← HLL.out] at hx
                  rcases List.mem_append.1 hx with hx | hx
                  · exact HA3.out.lies x (List.mem_of_mem_take hx)
                  · rcases List.mem_cons.1 hx with rfl | hx
                    · exact LCW.out
                    · exact HA3.out.lies x (List.mem_of_mem_drop hx)
                have HF3 : Hid (HitsAll (L'.map RCut.cut) ((all.take k).map RSp.sp)) := by unfold Hid; rw [← hL', ins_map]; exact HH.out.more ins_mem
                have HF4 := Lib.hid (HNX.out (L'.map RCut.cut) (by rw [← hL', ins_map]; exact ins_mem) (fun _ => by rw [← hL', ins_map]; exact ins_hits))
                have HAF : Hid (CutsAt w w5 g' 0 cp' L' W') := ⟨k3, HF2.out, HF1.out, k1, k2, HA7.out.bel.trans (hB.mono HA7.out.bel.size)⟩
                clear hL' hB k1 k2 k3 HJ
                go_wp2
                exact ⟨⟨2, g', 0, cp', L', by omega, by go_num, rfl, HAF.out, HF3.out, HF4.out, by omega⟩, by simp [intOf]⟩
        · obtain rfl : q = 2 := by omega
          have HH2 : Hid (HitsAll (L.map RCut.cut) ((all.take (k + 1)).map RSp.sp)) := by unfold Hid; rw [take_all all k (by rw [HLN.out]; exact hlt)]; exact HH.out.snoc HT.out
          go_wp2
          exact ⟨⟨k + 1, b, o, cp, L, by omega, by go_num, rfl, HA.out, HH2.out, by omega⟩, by simp [intOf]; omega⟩
    · obtain rfl : k = N := by omega
      have HH2 : Hid (HitsAll (L.map RCut.cut) ((l ++ r).map RSp.sp)) := by have := HH.out; rw [List.take_of_length_le (by rw [HLN.out]; exact Nat.le_refl _), ← HAL.out] at this; exact this
      have hfin : L.length ≤ 2 + 2 * (l.length + r.length) := by have h1 := HLN.out; rw [← HAL.out, List.length_append] at h1; omega
      go_wp2
      go_ret
      exact ⟨b, o, cp, L, rfl, HA.out.src, HA.out.lies, HA.out.rise, (fun s hs => HH2.out s (by rw [List.map_append]; exact List.mem_append_left _ hs)), (fun s hs => HH2.out s (by rw [List.map_append]; exact List.mem_append_right _ hs)), hfin, HBL.out.trans (HA.out.bel.mono HBL.out.size)⟩
end Go.Proofs.YtdbdeadcffpbfaaGreatDoor.Span
