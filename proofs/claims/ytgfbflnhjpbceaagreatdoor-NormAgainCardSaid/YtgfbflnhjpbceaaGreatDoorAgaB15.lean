/-
  What the theorem of the last text needs of these: SpSweep, SpMem. Conditions: as each theorem states.
-/
import Derived.Test.YtgfbflnhjpbceaaGreatDoorAgaB1
import Derived.Test.YtgfbflnhjpbceaaGreatDoorAgaB13
import Derived.Test.YtgfbflnhjpbceaaGreatDoorAgaB14
set_option maxRecDepth 100000
set_option maxHeartbeats 25600000
namespace Go.Proofs.YtgfbflnhjpbceaaGreatDoor.Span
open Go.RowKit Num Ident Semver Prec

structure Edge where
 cut : Cut
 step : Int
def cov (l : List Edge) (c : Cut) : Int := (l.map fun e => if stand e.cut c ≤ 0 then e.step else 0).sum
def total (l : List Edge) : Int := (l.map fun e => e.step).sum
theorem cov_nil (c : Cut) : cov [] c = 0 := rfl
theorem cov_cons (e : Edge) (l : List Edge) (c : Cut) : cov (e :: l) c = (if stand e.cut c ≤ 0 then e.step else 0) + cov l c := by unfold cov; rw [List.map_cons, List.sum_cons]
theorem cov_append (l m : List Edge) (c : Cut) : cov (l ++ m) c = cov l c + cov m c := by unfold cov; rw [List.map_append, List.sum_append]
theorem total_cons (e : Edge) (l : List Edge) : total (e :: l) = e.step + total l := by unfold total; rw [List.map_cons, List.sum_cons]
theorem total_append (l m : List Edge) : total (l ++ m) = total l + total m := by unfold total; rw [List.map_append, List.sum_append]
theorem cov_perm {l m : List Edge} (h : l.Perm m) (c : Cut) : cov l c = cov m c := by
 induction h with
 | nil => rfl
 | cons x _ ih => rw [cov_cons, cov_cons, ih]
 | swap x y l => rw [cov_cons, cov_cons, cov_cons, cov_cons]; omega
 | trans _ _ h1 h2 => rw [h1, h2]
theorem total_perm {l m : List Edge} (h : l.Perm m) : total l = total m := by
 induction h with
 | nil => rfl
 | cons x _ ih => rw [total_cons, total_cons, ih]
 | swap x y l => rw [total_cons, total_cons, total_cons, total_cons]; omega
 | trans _ _ h1 h2 => rw [h1, h2]
theorem cov_none {l : List Edge} {c : Cut} (h : ∀ e ∈ l, stand c e.cut < 0) : cov l c = 0 := by
 induction l with
 | nil => rfl
 | cons e l ih =>
  rw [cov_cons, if_neg (lt_not (h e (List.mem_cons_self ..))), ih fun x hx => h x (List.mem_cons_of_mem _ hx)]; rfl
def edgesOf (l : List Sp) (step : Int) : List Edge := (l.filter cnt).flatMap fun s => [⟨s.lo, step⟩, ⟨s.hi, 0 - step⟩]
theorem edgesOf_yes {s : Sp} (l : List Sp) (step : Int) (h : cnt s = true) : edgesOf (s :: l) step = ⟨s.lo, step⟩ :: ⟨s.hi, 0 - step⟩ :: edgesOf l step := by
 unfold edgesOf; rw [List.filter_cons_of_pos h]; rfl
theorem edgesOf_no {s : Sp} (l : List Sp) (step : Int) (h : cnt s = false) : edgesOf (s :: l) step = edgesOf l step := by
 unfold edgesOf; rw [List.filter_cons_of_neg (by simp [h])]
theorem edgesOf_snoc_yes {s : Sp} (l : List Sp) (step : Int) (h : cnt s = true) : edgesOf (l ++ [s]) step = edgesOf l step ++ [⟨s.lo, step⟩, ⟨s.hi, 0 - step⟩] := by
 unfold edgesOf; rw [List.filter_append, List.flatMap_append, List.filter_cons_of_pos h]; rfl
theorem edgesOf_snoc_no {s : Sp} (l : List Sp) (step : Int) (h : cnt s = false) : edgesOf (l ++ [s]) step = edgesOf l step := by
 unfold edgesOf; rw [List.filter_append, List.flatMap_append, List.filter_cons_of_neg (by simp [h])]; simp
theorem edgesOf_total (l : List Sp) (step : Int) : total (edgesOf l step) = 0 := by
 induction l with
 | nil => rfl
 | cons s l ih =>
  cases h : cnt s
  ·rw [edgesOf_no l step h]; exact ih
  ·rw [edgesOf_yes l step h, total_cons, total_cons, ih]; show step + (0 - step + 0) = 0; omega
theorem edgesOf_right (l : List Sp) (step : Int) : ∀ e ∈ edgesOf l step, right e.cut = true := by
 induction l with
 | nil => intro e he; cases he
 | cons s l ih =>
  intro e he
  cases h : cnt s
  ·rw [edgesOf_no l step h] at he; exact ih e he
  ·rw [edgesOf_yes l step h] at he
   have hc := (cnt_iff s).1 h
   rcases List.mem_cons.1 he with rfl | he
   ·exact hc.1
   ·rcases List.mem_cons.1 he with rfl | he
    ·exact hc.2.1
    ·exact ih e he
theorem edgesOf_step (l : List Sp) (step : Int) : ∀ e ∈ edgesOf l step, e.step = step ∨ e.step = 0 - step := by
 induction l with
 | nil => intro e he; cases he
 | cons s l ih =>
  intro e he
  cases h : cnt s
  ·rw [edgesOf_no l step h] at he; exact ih e he
  ·rw [edgesOf_yes l step h] at he
   rcases List.mem_cons.1 he with rfl | he
   ·exact .inl rfl
   ·rcases List.mem_cons.1 he with rfl | he
    ·exact .inr rfl
    ·exact ih e he
def times (l : List Sp) (c : Cut) : Nat := (l.filter fun s => cnt s && (decide (stand s.lo c ≤ 0) && decide (stand c s.hi < 0))).length
theorem times_yes {s : Sp} (l : List Sp) {c : Cut} (h : cnt s = true) (h1 : inOne s c) : times (s :: l) c = times l c + 1 := by
 unfold times; rw [List.filter_cons_of_pos (by simp [h, h1.1, h1.2])]; rfl
theorem times_no {s : Sp} (l : List Sp) {c : Cut} (h : ¬ (cnt s = true ∧ inOne s c)) : times (s :: l) c = times l c := by
 unfold times; rw [List.filter_cons_of_neg (by intro k; simp at k; exact h ⟨k.1, k.2.1, k.2.2⟩)]
theorem edgesOf_cov (l : List Sp) (step : Int) (c : Cut) : cov (edgesOf l step) c = step * (times l c : Int) := by
 induction l with
 | nil => simp [edgesOf, times, cov]
 | cons s l ih =>
  cases h : cnt s
  ·rw [edgesOf_no l step h, times_no l (fun k => by rw [h] at k; cases k.1)]; exact ih
  ·rw [edgesOf_yes l step h, cov_cons, cov_cons, ih]
   have hc := (cnt_iff s).1 h
   show (if stand s.lo c ≤ 0 then step else 0) + ((if stand s.hi c ≤ 0 then 0 - step else 0) + _) = _
   by_cases h1 : stand s.lo c ≤ 0
   ·by_cases h2 : stand s.hi c ≤ 0
    ·rw [if_pos h1, if_pos h2, times_no l (fun k => le_not h2 k.2.2)]; omega
    ·rw [if_pos h1, if_neg h2, times_yes l h ⟨h1, not_le h2⟩, Int.natCast_add, Int.mul_add]
     simp; omega
   ·have h2 : ¬ stand s.hi c ≤ 0 := fun k => h1 (le_le (by have := hc.2.2; omega) k)
    rw [if_neg h1, if_neg h2, times_no l (fun k => h1 k.2.1)]; omega
theorem times_pos (l : List Sp) (c : Cut) : 1 ≤ times l c ↔ inR l c := by
 induction l with
 | nil =>
  constructor
  ·intro h; simp [times] at h
  ·rintro ⟨s, hs, _⟩; cases hs
 | cons s l ih =>
  by_cases h : cnt s = true ∧ inOne s c
  ·rw [times_yes l h.1 h.2]
   exact ⟨fun _ => ⟨s, List.mem_cons_self .., h⟩, fun _ => by omega⟩
  ·rw [times_no l h, ih]
   constructor
   ·rintro ⟨t, ht, k⟩; exact ⟨t, List.mem_cons_of_mem _ ht, k⟩
   ·rintro ⟨t, ht, k⟩
    rcases List.mem_cons.1 ht with rfl | ht
    ·exact absurd k h
    ·exact ⟨t, ht, k⟩
theorem Norm.once {l : List Sp} (h : Norm l) (c : Cut) : times l c ≤ 1 := by
 induction l with
 | nil => simp [times]
 | cons s l ih =>
  by_cases k : Span.cnt s = true ∧ inOne s c
  ·rw [times_yes l k.1 k.2]
   have : ¬ 1 ≤ times l c := by
    rw [times_pos]
    rintro ⟨t, ht, _, i⟩
    exact lt_not (h.ahead t ht) (le_le i.1 (by have := k.2.2; omega))
   omega
  ·rw [times_no l k]; exact ih h.tail

def go (n : Int) : Cut → Bool → Int → Cut → List Edge → List Sp
 | _, _, _, _, [] => []
 | cut, was, t, lo, [e] =>
  if was = true ∧ ¬ n ≤ t + e.step then [⟨lo, cut⟩] else []
 | cut, was, t, lo, e :: f :: r =>
  if stand cut f.cut = 0 then go n cut was (t + e.step) lo (f :: r)
  else if n ≤ t + e.step ∧ was = false then go n f.cut true (t + e.step) cut (f :: r)
  else if was = true ∧ ¬ n ≤ t + e.step then ⟨lo, cut⟩ :: go n f.cut false (t + e.step) lo (f :: r)
  else go n f.cut was (t + e.step) lo (f :: r)
def sweepL (n : Int) : List Edge → List Sp
 | [] => []
 | e :: r => go n e.cut (decide (n ≤ 0)) 0 low (e :: r)

structure Open (cut : Cut) (was : Bool) (lo : Cut) (out : List Sp) : Prop where
 norm : Norm out
 yes : was = true → ∃ h r, out = ⟨lo, h⟩ :: r ∧ stand cut h ≤ 0 ∧ ∀ s ∈ r, stand cut s.lo < 0
 no : was = false → ∀ s ∈ out, stand cut s.lo ≤ 0

theorem sorted_ge {e : Edge} {r : List Edge} (h : (e :: r).Pairwise fun x y => stand x.cut y.cut ≤ 0) : ∀ x ∈ r, stand e.cut x.cut ≤ 0 := (List.pairwise_cons.1 h).1

theorem go_open (n : Int) : ∀ (l : List Edge) (cut : Cut) (was : Bool) (t : Int) (lo : Cut), l ≠ [] → (l.Pairwise fun x y => stand x.cut y.cut ≤ 0) → (∀ e ∈ l, right e.cut = true) → right cut = true →
  (∀ e ∈ l, stand cut e.cut ≤ 0) → (∃ e r, l = e :: r ∧ stand cut e.cut = 0) → (was = true → right lo = true ∧ stand lo cut < 0) → t + total l < n →
  Open cut was lo (go n cut was t lo l) ∧ ∀ c, inS (go n cut was t lo l) c ↔ (if stand c cut < 0 then was = true ∧ stand lo c ≤ 0 else n ≤ t + cov l c)
 | [], _, _, _, _, h, _, _, _, _, _, _, _ => absurd rfl h
 | [e], cut, was, t, lo, _, _, _, hc, _, he, hlo, ht => by
  obtain ⟨e', r', heq, hz⟩ := he
  obtain ⟨rfl, rfl⟩ : e = e' ∧ [] = r' := by injection heq with h1 h2; exact ⟨h1, h2⟩
  have ht2 : ¬ n ≤ t + e.step := by rw [total_cons] at ht; have : total [] = 0 := rfl; omega
  have hcov : ∀ c, ¬ stand c cut < 0 → t + cov [e] c = t + e.step := fun c h => by
   rw [cov_cons, cov_nil, if_pos (le_le (by have := like_flip hz; omega) (not_lt h))]; omega
  unfold go
  cases was with
  | true =>
   rw [if_pos ⟨rfl, ht2⟩]
   obtain ⟨h1, h2⟩ := hlo rfl
   refine ⟨⟨⟨fun s hs => ?_, List.pairwise_singleton _ _⟩, fun _ => ⟨cut, [], rfl, by rw [stand_self]; exact Int.le_refl 0, (fun s hs => by cases hs)⟩, (fun h => by cases h)⟩, fun c => ?_⟩
   ·rw [List.mem_singleton] at hs; subst hs; exact (cnt_iff _).2 ⟨h1, hc, h2⟩
   ·by_cases k : stand c cut < 0
    ·rw [if_pos k]
     constructor
     ·rintro ⟨s, hs, i⟩; rw [List.mem_singleton] at hs; subst hs; exact ⟨rfl, i.1⟩
     ·rintro ⟨_, i⟩; exact ⟨_, List.mem_singleton.2 rfl, i, k⟩
    ·rw [if_neg k, hcov c k]
     constructor
     ·rintro ⟨s, hs, i⟩; rw [List.mem_singleton] at hs; subst hs; exact absurd i.2 k
     ·intro h; exact absurd h ht2
  | false =>
   rw [if_neg (by rintro ⟨h, _⟩; cases h)]
   refine ⟨⟨Norm.nil, (fun h => by cases h), fun _ s hs => by cases hs⟩, fun c => ?_⟩
   by_cases k : stand c cut < 0
   ·rw [if_pos k]
    constructor
    ·rintro ⟨s, hs, _⟩; cases hs
    ·rintro ⟨h, _⟩; cases h
   ·rw [if_neg k, hcov c k]
    constructor
    ·rintro ⟨s, hs, _⟩; cases hs
    ·intro h; exact absurd h ht2
 | e :: f :: r, cut, was, t, lo, _, hp, hr, hc, hge, he, hlo, ht => by
  obtain ⟨e', r', heq, hz⟩ := he
  obtain ⟨rfl, rfl⟩ : e = e' ∧ f :: r = r' := by injection heq with h1 h2; exact ⟨h1, h2⟩
  have hp2 := (List.pairwise_cons.1 hp).2
  have hr2 : ∀ x ∈ f :: r, right x.cut = true := fun x hx => hr x (List.mem_cons_of_mem _ hx)
  have ht2 : t + e.step + total (f :: r) < n := by rw [total_cons] at ht; omega
  have hge2 : ∀ x ∈ f :: r, stand cut x.cut ≤ 0 := fun x hx => hge x (List.mem_cons_of_mem _ hx)
  have hcov : ∀ c, ¬ stand c cut < 0 → t + cov (e :: f :: r) c = t + e.step + cov (f :: r) c := fun c h => by
   rw [cov_cons, if_pos (le_le (by have := like_flip hz; omega) (not_lt h))]; omega
  have hfge : ∀ x ∈ f :: r, stand f.cut x.cut ≤ 0 := fun x hx => by
   rcases List.mem_cons.1 hx with rfl | hx
   ·rw [stand_self]; exact Int.le_refl 0
   ·exact sorted_ge hp2 x hx
  unfold go
  by_cases h0 : stand cut f.cut = 0
  ·rw [if_pos h0]
   obtain ⟨o, k⟩ := go_open n (f :: r) cut was (t + e.step) lo (by simp) hp2 hr2 hc hge2 ⟨f, r, rfl, h0⟩ hlo ht2
   refine ⟨o, fun c => (k c).trans ?_⟩
   by_cases q : stand c cut < 0
   ·rw [if_pos q, if_pos q]
   ·rw [if_neg q, if_neg q, hcov c q]
  ·rw [if_neg h0]
   have hcf : stand cut f.cut < 0 := by have := hge2 f (List.mem_cons_self ..); omega
   have hfr := hr2 f (List.mem_cons_self ..)
   have hself : ∃ e r', f :: r = e :: r' ∧ stand f.cut e.cut = 0 := ⟨f, r, rfl, stand_self _⟩
   have hmid : ∀ c, ¬ stand c cut < 0 → stand c f.cut < 0 → t + e.step + cov (f :: r) c = t + e.step := fun c _ h => by
    rw [cov_none fun x hx => lt_le h (hfge x hx)]; omega
   by_cases h1 : n ≤ t + e.step ∧ was = false
   ·rw [if_pos h1]
    obtain ⟨h1, rfl⟩ := h1
    obtain ⟨o, k⟩ := go_open n (f :: r) f.cut true (t + e.step) cut (by simp) hp2 hr2 hfr hfge hself (fun _ => ⟨hc, hcf⟩) ht2
    obtain ⟨h, q, e1, e2, e3⟩ := o.yes rfl
    refine ⟨⟨o.norm, (fun h => by cases h), fun _ s hs => ?_⟩, fun c => (k c).trans ?_⟩
    ·rw [e1] at hs
     rcases List.mem_cons.1 hs with rfl | hs
     ·show stand cut cut ≤ 0; rw [stand_self]; exact Int.le_refl 0
     ·have := lt_lt hcf (e3 s hs); omega
    ·by_cases q1 : stand c cut < 0
     ·rw [if_pos q1, if_pos (lt_lt q1 hcf)]
      constructor
      ·rintro ⟨_, g⟩; exact absurd q1 (le_not g)
      ·rintro ⟨g, _⟩; cases g
     ·rw [if_neg q1, hcov c q1]
      by_cases q2 : stand c f.cut < 0
      ·rw [if_pos q2, hmid c q1 q2]
       exact ⟨fun _ => h1, fun _ => ⟨rfl, not_lt q1⟩⟩
      ·rw [if_neg q2]
   ·rw [if_neg h1]
    by_cases h2 : was = true ∧ ¬ n ≤ t + e.step
    ·rw [if_pos h2]
     obtain ⟨rfl, h2⟩ := h2
     obtain ⟨l1, l2⟩ := hlo rfl
     obtain ⟨o, k⟩ := go_open n (f :: r) f.cut false (t + e.step) lo (by simp) hp2 hr2 hfr hfge hself (fun h => by cases h) ht2
     have hno := o.no rfl
     refine ⟨⟨⟨fun s hs => ?_, List.pairwise_cons.2 ⟨fun s hs => ?_, o.norm.gap⟩⟩, fun _ => ⟨cut, _, rfl, by rw [stand_self]; exact Int.le_refl 0, fun s hs => lt_le hcf (hno s hs)⟩, fun h => by cases h⟩, fun c => ?_⟩
     ·rcases List.mem_cons.1 hs with rfl | hs
      ·exact (cnt_iff _).2 ⟨l1, hc, l2⟩
      ·exact o.norm.cnt s hs
     ·exact lt_le hcf (hno s hs)
     ·by_cases q1 : stand c cut < 0
      ·rw [if_pos q1]
       constructor
       ·rintro ⟨s, hs, i⟩
        rcases List.mem_cons.1 hs with rfl | hs
        ·exact ⟨rfl, i.1⟩
        ·exact absurd (le_le (hno s hs) i.1) (lt_not (lt_lt q1 hcf))
       ·rintro ⟨_, i⟩; exact ⟨_, List.mem_cons_self .., i, q1⟩
      ·rw [if_neg q1, hcov c q1]
       have step : inS (⟨lo, cut⟩ :: go n f.cut false (t + e.step) lo (f :: r)) c ↔ inS (go n f.cut false (t + e.step) lo (f :: r)) c := by
        constructor
        ·rintro ⟨s, hs, i⟩
         rcases List.mem_cons.1 hs with rfl | hs
         ·exact absurd i.2 q1
         ·exact ⟨s, hs, i⟩
        ·rintro ⟨s, hs, i⟩; exact ⟨s, List.mem_cons_of_mem _ hs, i⟩
       refine (step.trans (k c)).trans ?_
       by_cases q2 : stand c f.cut < 0
       ·rw [if_pos q2, hmid c q1 q2]
        constructor
        ·rintro ⟨g, _⟩; cases g
        ·intro g; exact absurd g h2
       ·rw [if_neg q2]
    ·rw [if_neg h2]
     cases was with
     | true =>
      have h3 : n ≤ t + e.step := by
       by_cases g : n ≤ t + e.step
       ·exact g
       ·exact absurd ⟨rfl, g⟩ h2
      obtain ⟨l1, l2⟩ := hlo rfl
      obtain ⟨o, k⟩ := go_open n (f :: r) f.cut true (t + e.step) lo (by simp) hp2 hr2 hfr hfge hself (fun _ => ⟨l1, lt_lt l2 hcf⟩) ht2
      obtain ⟨h, q, e1, e2, e3⟩ := o.yes rfl
      refine ⟨⟨o.norm, fun _ => ⟨h, q, e1, le_le (by omega) e2, fun s hs => lt_lt hcf (e3 s hs)⟩, fun h => by cases h⟩, fun c => (k c).trans ?_⟩
      by_cases q1 : stand c cut < 0
      ·rw [if_pos q1, if_pos (lt_lt q1 hcf)]
      ·rw [if_neg q1, hcov c q1]
       by_cases q2 : stand c f.cut < 0
       ·rw [if_pos q2, hmid c q1 q2]
        exact ⟨fun _ => h3, fun _ => ⟨rfl, le_le (by omega) (not_lt q1)⟩⟩
       ·rw [if_neg q2]
     | false =>
      have h3 : ¬ n ≤ t + e.step := fun g => h1 ⟨g, rfl⟩
      obtain ⟨o, k⟩ := go_open n (f :: r) f.cut false (t + e.step) lo (by simp) hp2 hr2 hfr hfge hself (fun h => by cases h) ht2
      have hno := o.no rfl
      refine ⟨⟨o.norm, (fun h => by cases h), fun _ s hs => ?_⟩, fun c => (k c).trans ?_⟩
      ·have := lt_le hcf (hno s hs); omega
      ·by_cases q1 : stand c cut < 0
       ·rw [if_pos q1, if_pos (lt_lt q1 hcf)]
       ·rw [if_neg q1, hcov c q1]
        by_cases q2 : stand c f.cut < 0
        ·rw [if_pos q2, hmid c q1 q2]
         constructor
         ·rintro ⟨g, _⟩; cases g
         ·intro g; exact absurd g h3
        ·rw [if_neg q2]
theorem sweep_norm {n : Int} (hn : 0 < n) {l : List Edge} (hp : l.Pairwise fun x y => stand x.cut y.cut ≤ 0) (hr : ∀ e ∈ l, right e.cut = true) (ht : total l < n) :
  Norm (sweepL n l) ∧ ∀ c, inS (sweepL n l) c ↔ n ≤ cov l c := by
 cases l with
 | nil =>
  refine ⟨Norm.nil, fun c => ⟨(fun ⟨s, hs, _⟩ => by cases hs), fun h => ?_⟩⟩
  rw [cov_nil] at h; omega
 | cons e r =>
  have hd : decide (n ≤ 0) = false := decide_eq_false (by omega)
  have hge : ∀ x ∈ e :: r, stand e.cut x.cut ≤ 0 := fun x hx => by
   rcases List.mem_cons.1 hx with rfl | hx
   ·rw [stand_self]; exact Int.le_refl 0
   ·exact sorted_ge hp x hx
  unfold sweepL
  rw [hd]
  obtain ⟨o, k⟩ := go_open n (e :: r) e.cut false 0 low (by simp) hp hr (hr e (List.mem_cons_self ..)) hge ⟨e, r, rfl, stand_self _⟩ (fun h => by cases h) (by omega)
  refine ⟨o.norm, fun c => (k c).trans ?_⟩
  by_cases q : stand c e.cut < 0
  ·rw [if_pos q, cov_none fun x hx => lt_le q (hge x hx)]
   constructor
   ·rintro ⟨g, _⟩; cases g
   ·intro g; omega
  ·rw [if_neg q]; omega
def nextL (n t : Int) (lo : Cut) : List Edge → List Sp
 | [] => []
 | e :: r => go n e.cut (decide (n ≤ t)) t lo (e :: r)
theorem sweepL_next (n : Int) (l : List Edge) : sweepL n l = nextL n 0 low l := by cases l <;> rfl
theorem go_like {n : Int} {cut lo : Cut} {was : Bool} {t : Int} {e f : Edge} {r : List Edge} (h : stand cut f.cut = 0) : go n cut was t lo (e :: f :: r) = go n cut was (t + e.step) lo (f :: r) := by
 rw [go, if_pos h]
def Ends (cut : Cut) (r : List Edge) : Prop := r = [] ∨ ∃ f q, r = f :: q ∧ stand cut f.cut ≠ 0
theorem go_open_ {n : Int} {cut lo : Cut} {t : Int} {e : Edge} {r : List Edge} (h : Ends cut r) (h1 : n ≤ t + e.step) : go n cut false t lo (e :: r) = nextL n (t + e.step) cut r := by
 rcases h with rfl | ⟨f, q, rfl, h⟩
 ·rw [go, if_neg (by rintro ⟨g, _⟩; cases g)]; rfl
 ·rw [go, if_neg h, if_pos ⟨h1, rfl⟩]; unfold nextL; rw [decide_eq_true h1]
theorem go_shut {n : Int} {cut lo : Cut} {t : Int} {e : Edge} {r : List Edge} (h : Ends cut r) (h1 : ¬ n ≤ t + e.step) : go n cut true t lo (e :: r) = ⟨lo, cut⟩ :: nextL n (t + e.step) lo r := by
 rcases h with rfl | ⟨f, q, rfl, h⟩
 ·rw [go, if_pos ⟨rfl, h1⟩]; rfl
 ·rw [go, if_neg h, if_neg (fun g => h1 g.1), if_pos ⟨rfl, h1⟩]; unfold nextL; rw [decide_eq_false h1]
theorem go_same {n : Int} {cut lo : Cut} {was : Bool} {t : Int} {e : Edge} {r : List Edge} (h : Ends cut r) (h1 : decide (n ≤ t + e.step) = was) : go n cut was t lo (e :: r) = nextL n (t + e.step) lo r := by
 have h2 : ¬ (was = true ∧ ¬ n ≤ t + e.step) := by rintro ⟨rfl, g⟩; exact g (of_decide_eq_true h1)
 have h3 : ¬ (n ≤ t + e.step ∧ was = false) := by rintro ⟨g, rfl⟩; exact of_decide_eq_false h1 g
 rcases h with rfl | ⟨f, q, rfl, h⟩
 ·rw [go, if_neg h2]; rfl
 ·rw [go, if_neg h, if_neg h3, if_neg h2]; unfold nextL; rw [h1]
end Go.Proofs.YtgfbflnhjpbceaaGreatDoor.Span
namespace Go.Proofs.YtgfbflnhjpbceaaGreatDoor.Span
open Go.RowKit Num Ident Semver Prec

structure RCut where
 kind : Int
 v : Ver
 A : Option Addr
 c : Nat
 B : Option Addr
 d : Nat
def RCut.cut (r : RCut) : Cut := ⟨r.kind, r.v⟩
structure RSp where
 lo : RCut
 hi : RCut
def RSp.sp (s : RSp) : Sp := ⟨s.lo.cut, s.hi.cut⟩
structure REdge where
 cut : RCut
 step : Int
def REdge.edge (e : REdge) : Edge := ⟨e.cut.cut, e.step⟩
def rlow : RCut := ⟨0, noVer, none, 0, none, 0⟩
def rhigh : RCut := ⟨3, noVer, none, 0, none, 0⟩
instance : Inhabited RSp := ⟨⟨rlow, rlow⟩⟩
instance : Inhabited REdge := ⟨⟨rlow, 0⟩⟩
def RCut.vals (r : RCut) : List Value := [.int .i64 r.kind, .int .u64 (r.v.a : Int), .int .u64 (r.v.b : Int), .int .u64 (r.v.c : Int), .slice r.A r.v.pre.length r.c, .slice r.B r.v.build.length r.d]
def RSp.vals (s : RSp) : List Value := [.int .i64 s.lo.kind, .int .u64 (s.lo.v.a : Int), .int .u64 (s.lo.v.b : Int), .int .u64 (s.lo.v.c : Int), .slice s.lo.A s.lo.v.pre.length s.lo.c, .slice s.lo.B s.lo.v.build.length s.lo.d, .int .i64 s.hi.kind, .int .u64 (s.hi.v.a : Int), .int .u64 (s.hi.v.b : Int), .int .u64 (s.hi.v.c : Int), .slice s.hi.A s.hi.v.pre.length s.hi.c, .slice s.hi.B s.hi.v.build.length s.hi.d]
def REdge.vals (e : REdge) : List Value := [.int .i64 e.cut.kind, .int .u64 (e.cut.v.a : Int), .int .u64 (e.cut.v.b : Int), .int .u64 (e.cut.v.c : Int), .slice e.cut.A e.cut.v.pre.length e.cut.c, .slice e.cut.B e.cut.v.build.length e.cut.d, .int .i64 e.step]
structure Lies (w : World) (r : RCut) : Prop where
 pre : SRow w r.A r.v.pre.length r.v.pre
 build : SRow w r.B r.v.build.length r.v.build
 fpre : Fit r.v.pre
 fbuild : Fit r.v.build
theorem Lies.kept {w w' : World} {r : RCut} (h : Lies w r) (hb : Below w.heap.size w w') : Lies w' r := ⟨h.pre.kept hb, h.build.kept hb, h.fpre, h.fbuild⟩
theorem Lies.low (w : World) : Lies w rlow := ⟨SRow.none_ _ _, SRow.none_ _ _, Fit.nil, Fit.nil⟩
theorem Lies.high (w : World) : Lies w rhigh := ⟨SRow.none_ _ _, SRow.none_ _ _, Fit.nil, Fit.nil⟩
structure LiesS (w : World) (s : RSp) : Prop where
 lo : Lies w s.lo
 hi : Lies w s.hi
theorem LiesS.kept {w w' : World} {s : RSp} (h : LiesS w s) (hb : Below w.heap.size w w') : LiesS w' s := ⟨h.lo.kept hb, h.hi.kept hb⟩
theorem vals_one (r : RCut) : ∀ u ∈ r.vals, u.oneCell' = true := by
 intro u hu; simp only [RCut.vals, List.mem_cons, List.mem_nil_iff, or_false] at hu
 rcases hu with rfl | rfl | rfl | rfl | rfl | rfl <;> rfl
theorem svals_eq (s : RSp) : s.vals = s.lo.vals ++ s.hi.vals := rfl
theorem evals_eq (e : REdge) : e.vals = e.cut.vals ++ [.int .i64 e.step] := rfl
theorem svals_one (s : RSp) : ∀ u ∈ s.vals, u.oneCell' = true := by
 intro u hu; rw [svals_eq, List.mem_append] at hu
 exact hu.elim (vals_one _ u) (vals_one _ u)
theorem evals_one (e : REdge) : ∀ u ∈ e.vals, u.oneCell' = true := by
 intro u hu; rw [evals_eq, List.mem_append] at hu
 rcases hu with h | h
 ·exact vals_one _ u h
 ·rw [List.mem_singleton] at h; subst h; rfl

def At6B (W : World) (b : Nat) (u0 u1 u2 u3 u4 u5 : Value) : Prop := b < W.heap.size ∧ (∀ o, W.frozen? ⟨b, o, none⟩ = false) ∧ W.cell? ⟨b, 0, none⟩ = some u0 ∧ W.cell? ⟨b, 1, none⟩ = some u1 ∧ W.cell? ⟨b, 2, none⟩ = some u2 ∧ W.cell? ⟨b, 3, none⟩ = some u3 ∧ W.cell? ⟨b, 4, none⟩ = some u4 ∧ W.cell? ⟨b, 5, none⟩ = some u5
theorem At6B.new (w : World) (t : TypeId) (u0 u1 u2 u3 u4 u5 : Value) : At6B (w.alloc (.cells #[u0, u1, u2, u3, u4, u5] t)) w.heap.size u0 u1 u2 u3 u4 u5 := by
 unfold At6B
 refine ⟨by simp, fun o => by simp [go_sem], ?_, ?_, ?_, ?_, ?_, ?_⟩ <;> simp [go_sem]
theorem At6B.kept {W W' : World} {b B : Nat} {u0 u1 u2 u3 u4 u5 : Value} (h : At6B W b u0 u1 u2 u3 u4 u5) (hb : Below B W W') (hB : b < B) : At6B W' b u0 u1 u2 u3 u4 u5 := by
 obtain ⟨h1, h2, c0, c1, c2, c3, c4, c5⟩ := h
 exact ⟨Nat.lt_of_lt_of_le h1 hb.size, fun o => (hb.frozen (p := ⟨b, o, none⟩) hB).trans (h2 o), (hb.cell (p := ⟨b, 0, none⟩) hB).trans c0, (hb.cell (p := ⟨b, 1, none⟩) hB).trans c1, (hb.cell (p := ⟨b, 2, none⟩) hB).trans c2, (hb.cell (p := ⟨b, 3, none⟩) hB).trans c3, (hb.cell (p := ⟨b, 4, none⟩) hB).trans c4, (hb.cell (p := ⟨b, 5, none⟩) hB).trans c5⟩
def At7B (W : World) (b : Nat) (u0 u1 u2 u3 u4 u5 u6 : Value) : Prop := b < W.heap.size ∧ (∀ o, W.frozen? ⟨b, o, none⟩ = false) ∧ W.cell? ⟨b, 0, none⟩ = some u0 ∧ W.cell? ⟨b, 1, none⟩ = some u1 ∧ W.cell? ⟨b, 2, none⟩ = some u2 ∧ W.cell? ⟨b, 3, none⟩ = some u3 ∧ W.cell? ⟨b, 4, none⟩ = some u4 ∧ W.cell? ⟨b, 5, none⟩ = some u5 ∧ W.cell? ⟨b, 6, none⟩ = some u6
theorem At7B.new (w : World) (t : TypeId) (u0 u1 u2 u3 u4 u5 u6 : Value) : At7B (w.alloc (.cells #[u0, u1, u2, u3, u4, u5, u6] t)) w.heap.size u0 u1 u2 u3 u4 u5 u6 := by
 unfold At7B
 refine ⟨by simp, fun o => by simp [go_sem], ?_, ?_, ?_, ?_, ?_, ?_, ?_⟩ <;> simp [go_sem]
theorem At7B.kept {W W' : World} {b B : Nat} {u0 u1 u2 u3 u4 u5 u6 : Value} (h : At7B W b u0 u1 u2 u3 u4 u5 u6) (hb : Below B W W') (hB : b < B) : At7B W' b u0 u1 u2 u3 u4 u5 u6 := by
 obtain ⟨h1, h2, c0, c1, c2, c3, c4, c5, c6⟩ := h
 exact ⟨Nat.lt_of_lt_of_le h1 hb.size, fun o => (hb.frozen (p := ⟨b, o, none⟩) hB).trans (h2 o), (hb.cell (p := ⟨b, 0, none⟩) hB).trans c0, (hb.cell (p := ⟨b, 1, none⟩) hB).trans c1, (hb.cell (p := ⟨b, 2, none⟩) hB).trans c2, (hb.cell (p := ⟨b, 3, none⟩) hB).trans c3, (hb.cell (p := ⟨b, 4, none⟩) hB).trans c4, (hb.cell (p := ⟨b, 5, none⟩) hB).trans c5, (hb.cell (p := ⟨b, 6, none⟩) hB).trans c6⟩
def At12B (W : World) (b : Nat) (u0 u1 u2 u3 u4 u5 u6 u7 u8 u9 u10 u11 : Value) : Prop := b < W.heap.size ∧ (∀ o, W.frozen? ⟨b, o, none⟩ = false) ∧ W.cell? ⟨b, 0, none⟩ = some u0 ∧ W.cell? ⟨b, 1, none⟩ = some u1 ∧ W.cell? ⟨b, 2, none⟩ = some u2 ∧ W.cell? ⟨b, 3, none⟩ = some u3 ∧ W.cell? ⟨b, 4, none⟩ = some u4 ∧ W.cell? ⟨b, 5, none⟩ = some u5 ∧ W.cell? ⟨b, 6, none⟩ = some u6 ∧ W.cell? ⟨b, 7, none⟩ = some u7 ∧ W.cell? ⟨b, 8, none⟩ = some u8 ∧ W.cell? ⟨b, 9, none⟩ = some u9 ∧ W.cell? ⟨b, 10, none⟩ = some u10 ∧ W.cell? ⟨b, 11, none⟩ = some u11
theorem At12B.new (w : World) (t : TypeId) (u0 u1 u2 u3 u4 u5 u6 u7 u8 u9 u10 u11 : Value) : At12B (w.alloc (.cells #[u0, u1, u2, u3, u4, u5, u6, u7, u8, u9, u10, u11] t)) w.heap.size u0 u1 u2 u3 u4 u5 u6 u7 u8 u9 u10 u11 := by
 unfold At12B
 refine ⟨by simp, fun o => by simp [go_sem], ?_, ?_, ?_, ?_, ?_, ?_, ?_, ?_, ?_, ?_, ?_, ?_⟩ <;> simp [go_sem]
theorem At12B.kept {W W' : World} {b B : Nat} {u0 u1 u2 u3 u4 u5 u6 u7 u8 u9 u10 u11 : Value} (h : At12B W b u0 u1 u2 u3 u4 u5 u6 u7 u8 u9 u10 u11) (hb : Below B W W') (hB : b < B) : At12B W' b u0 u1 u2 u3 u4 u5 u6 u7 u8 u9 u10 u11 := by
 obtain ⟨h1, h2, c0, c1, c2, c3, c4, c5, c6, c7, c8, c9, c10, c11⟩ := h
 exact ⟨Nat.lt_of_lt_of_le h1 hb.size, fun o => (hb.frozen (p := ⟨b, o, none⟩) hB).trans (h2 o), (hb.cell (p := ⟨b, 0, none⟩) hB).trans c0, (hb.cell (p := ⟨b, 1, none⟩) hB).trans c1, (hb.cell (p := ⟨b, 2, none⟩) hB).trans c2, (hb.cell (p := ⟨b, 3, none⟩) hB).trans c3, (hb.cell (p := ⟨b, 4, none⟩) hB).trans c4, (hb.cell (p := ⟨b, 5, none⟩) hB).trans c5, (hb.cell (p := ⟨b, 6, none⟩) hB).trans c6, (hb.cell (p := ⟨b, 7, none⟩) hB).trans c7, (hb.cell (p := ⟨b, 8, none⟩) hB).trans c8, (hb.cell (p := ⟨b, 9, none⟩) hB).trans c9, (hb.cell (p := ⟨b, 10, none⟩) hB).trans c10, (hb.cell (p := ⟨b, 11, none⟩) hB).trans c11⟩

def SpRow (w : World) (A : Option Addr) (n : Nat) (l : List RSp) : Prop :=
 l.length = n ∧ (∀ s ∈ l, LiesS w s) ∧ (0 < n → ∃ b o, A = some ⟨b, o, none⟩ ∧ b < w.heap.size ∧ ∀ j, j < n → ∀ i v, (l.getD j default).vals[i]? = some v → w.cell? ⟨b, o + j * 12 + i, none⟩ = some v)
theorem SpRow.none_ (w : World) (A : Option Addr) : SpRow w A 0 [] := ⟨rfl, (fun s h => by cases h), fun h => by omega⟩
theorem SpRow.kept {w w' : World} {A : Option Addr} {n : Nat} {l : List RSp} (h : SpRow w A n l) (hb : Below w.heap.size w w') : SpRow w' A n l := by
 refine ⟨h.1, fun s hs => (h.2.1 s hs).kept hb, fun h0 => ?_⟩
 obtain ⟨b, o, e, hlt, hc⟩ := h.2.2 h0
 exact ⟨b, o, e, Nat.lt_of_lt_of_le hlt hb.size, fun j hj i v hv => (hb.cell (p := ⟨b, o + j * 12 + i, none⟩) hlt).trans (hc j hj i v hv)⟩
theorem getS_mem {l : List RSp} {k : Nat} (h : k < l.length) : l.getD k default ∈ l := by simp [List.getD, List.getElem?_eq_getElem h]
theorem SpRow.lies {w : World} {A : Option Addr} {n : Nat} {l : List RSp} (h : SpRow w A n l) {k : Nat} (hk : k < n) : LiesS w (l.getD k default) := h.2.1 _ (getS_mem (by rw [h.1]; exact hk))
theorem SpRow.cells {w : World} {b o n : Nat} {l : List RSp} (h : ∀ j, j < n → ∀ i v, (l.getD j default).vals[i]? = some v → w.cell? ⟨b, o + j * 12 + i, none⟩ = some v) {k : Nat} (hk : k < n) :
  w.cell? ⟨b, o + k * 12, none⟩ = some (.int .i64 (l.getD k default).lo.kind) ∧ w.cell? ⟨b, o + k * 12 + 1, none⟩ = some (.int .u64 ((l.getD k default).lo.v.a : Int)) ∧ w.cell? ⟨b, o + k * 12 + 2, none⟩ = some (.int .u64 ((l.getD k default).lo.v.b : Int)) ∧ w.cell? ⟨b, o + k * 12 + 3, none⟩ = some (.int .u64 ((l.getD k default).lo.v.c : Int)) ∧ w.cell? ⟨b, o + k * 12 + 4, none⟩ = some (.slice (l.getD k default).lo.A (l.getD k default).lo.v.pre.length (l.getD k default).lo.c) ∧ w.cell? ⟨b, o + k * 12 + 5, none⟩ = some (.slice (l.getD k default).lo.B (l.getD k default).lo.v.build.length (l.getD k default).lo.d) ∧ w.cell? ⟨b, o + k * 12 + 6, none⟩ = some (.int .i64 (l.getD k default).hi.kind) ∧ w.cell? ⟨b, o + k * 12 + 7, none⟩ = some (.int .u64 ((l.getD k default).hi.v.a : Int)) ∧ w.cell? ⟨b, o + k * 12 + 8, none⟩ = some (.int .u64 ((l.getD k default).hi.v.b : Int)) ∧ w.cell? ⟨b, o + k * 12 + 9, none⟩ = some (.int .u64 ((l.getD k default).hi.v.c : Int)) ∧ w.cell? ⟨b, o + k * 12 + 10, none⟩ = some (.slice (l.getD k default).hi.A (l.getD k default).hi.v.pre.length (l.getD k default).hi.c) ∧ w.cell? ⟨b, o + k * 12 + 11, none⟩ = some (.slice (l.getD k default).hi.B (l.getD k default).hi.v.build.length (l.getD k default).hi.d) :=
 ⟨h k hk 0 _ rfl, h k hk 1 _ rfl, h k hk 2 _ rfl, h k hk 3 _ rfl, h k hk 4 _ rfl, h k hk 5 _ rfl, h k hk 6 _ rfl, h k hk 7 _ rfl, h k hk 8 _ rfl, h k hk 9 _ rfl, h k hk 10 _ rfl, h k hk 11 _ rfl⟩

end Go.Proofs.YtgfbflnhjpbceaaGreatDoor.Span
