/-
  What the theorem of the last text needs of these: SpMath, NmGreat, PrEq, NumCmp, IdCmp. Conditions: as each theorem states.
-/
import Derived.Test.YtgfbflnhjpbceaaGreatDoorAgaB1
import Derived.Test.YtgfbflnhjpbceaaGreatDoorAgaB2
import Derived.Test.YtgfbflnhjpbceaaGreatDoorAgaB5
import Derived.Test.YtgfbflnhjpbceaaGreatDoorAgaB12
import Derived.Test.YtgfbflnhjpbceaaGreatDoorChecked
import Derived.WalkKit
import Derived.ChangeKeysEq
import Derived.Laws.StructEq
import Derived.Test.YtgfbflnhjpbceaaGreatDoorShelfTrim
set_option maxRecDepth 100000
set_option maxHeartbeats 25600000
namespace Go.Proofs.YtgfbflnhjpbceaaGreatDoor.Span
open Go.RowKit Num Ident Semver Prec

structure Cut where
 kind : Int
 v : Ver
deriving DecidableEq
structure Sp where
 lo : Cut
 hi : Cut
deriving DecidableEq
def low : Cut := ⟨0, noVer⟩
def high : Cut := ⟨3, noVer⟩
instance : Inhabited Sp := ⟨⟨low, low⟩⟩
def ofVer (c : Cut) : Bool := decide (c.kind = 1 ∨ c.kind = 2)
theorem ofVer_iff (c : Cut) : ofVer c = true ↔ c.kind = 1 ∨ c.kind = 2 := by simp [ofVer]
theorem ofVer_no (c : Cut) : ofVer c = false ↔ ¬ (c.kind = 1 ∨ c.kind = 2) := by rw [← ofVer_iff]; cases ofVer c <;> simp
def right (c : Cut) : Bool := if c.kind = 0 ∨ c.kind = 3 then sameV c.v noVer else if c.kind = 1 ∨ c.kind = 2 then goodV c.v && decide (c.v.build.length = 0) else false
theorem right_ends {c : Cut} (h : c.kind = 0 ∨ c.kind = 3) : right c = sameV c.v noVer := by unfold right; rw [if_pos h]
theorem right_ver {c : Cut} (h : c.kind = 1 ∨ c.kind = 2) : right c = (goodV c.v && decide (c.v.build.length = 0)) := by unfold right; rw [if_neg (by omega), if_pos h]
theorem right_none {c : Cut} (h1 : ¬ (c.kind = 0 ∨ c.kind = 3)) (h2 : ¬ (c.kind = 1 ∨ c.kind = 2)) : right c = false := by unfold right; rw [if_neg h1, if_neg h2]
def ordI (x y : Int) : Int := if x < y then -1 else if y < x then 1 else 0
theorem ordI_lt {x y : Int} (h : x < y) : ordI x y = -1 := by unfold ordI; rw [if_pos h]
theorem ordI_gt {x y : Int} (h : y < x) : ordI x y = 1 := by unfold ordI; rw [if_neg (by omega), if_pos h]
theorem ordI_eq {x y : Int} (h : x = y) : ordI x y = 0 := by unfold ordI; rw [if_neg (by omega), if_neg (by omega)]
theorem ordI_cases (x y : Int) : (x < y ∧ ordI x y = -1) ∨ (x = y ∧ ordI x y = 0) ∨ (y < x ∧ ordI x y = 1) := by
 rcases Int.lt_trichotomy x y with h | h | h
 ·exact .inl ⟨h, ordI_lt h⟩
 ·exact .inr (.inl ⟨h, ordI_eq h⟩)
 ·exact .inr (.inr ⟨h, ordI_gt h⟩)
theorem ordI_ordr : Ordr ordI := by
 refine ⟨fun x y => ?_, fun x y z h1 h2 => ?_⟩
 ·rcases ordI_cases x y with ⟨a, b⟩ | ⟨a, b⟩ | ⟨a, b⟩ <;> rcases ordI_cases y x with ⟨c, d⟩ | ⟨c, d⟩ | ⟨c, d⟩ <;> omega
 ·rcases ordI_cases x y with ⟨a, b⟩ | ⟨a, b⟩ | ⟨a, b⟩ <;> rcases ordI_cases y z with ⟨c, d⟩ | ⟨c, d⟩ | ⟨c, d⟩ <;> rcases ordI_cases x z with ⟨e, f⟩ | ⟨e, f⟩ | ⟨e, f⟩ <;> omega
def stand (a b : Cut) : Int := if ofVer a = true ∧ ofVer b = true ∧ cmpV a.v b.v ≠ 0 then cmpV a.v b.v else ordI a.kind b.kind
def cmpC (a b : Cut) : Int := if right a = true ∧ right b = true then stand a b else ordI a.kind b.kind
theorem cmpC_right {a b : Cut} (h1 : right a = true) (h2 : right b = true) : cmpC a b = stand a b := by unfold cmpC; rw [if_pos ⟨h1, h2⟩]
def kc (c : Cut) : Int := if ofVer c = true then 1 else c.kind
def vk (c : Cut) : Ver := if ofVer c = true then c.v else noVer
theorem stand_lex (a b : Cut) : stand a b = lex (fun x y => ordI (kc x) (kc y)) (lex (fun x y => cmpV (vk x) (vk y)) fun x y => ordI x.kind y.kind) a b := by
 unfold stand
 by_cases h1 : ofVer a = true
 ·by_cases h2 : ofVer b = true
  ·have e1 : ordI (kc a) (kc b) = 0 := ordI_eq (by unfold kc; rw [if_pos h1, if_pos h2])
   have e2 : cmpV (vk a) (vk b) = cmpV a.v b.v := by unfold vk; rw [if_pos h1, if_pos h2]
   refine Eq.trans ?_ (lex_yes (f := fun x y => ordI (kc x) (kc y)) e1).symm
   by_cases h3 : cmpV a.v b.v = 0
   ·rw [if_neg (fun h => h.2.2 h3)]
    exact (lex_yes (f := fun x y => cmpV (vk x) (vk y)) (g := fun x y : Cut => ordI x.kind y.kind) (by show cmpV (vk a) (vk b) = 0; rw [e2]; exact h3)).symm
   ·rw [if_pos ⟨h1, h2, h3⟩, ← e2]
    exact (lex_no (f := fun x y => cmpV (vk x) (vk y)) (g := fun x y : Cut => ordI x.kind y.kind) (by show cmpV (vk a) (vk b) ≠ 0; rw [e2]; exact h3)).symm
  ·rw [if_neg (fun h => h2 h.2.1)]
   have ha := (ofVer_iff a).1 h1
   have hb := (ofVer_no b).1 (by simpa using h2)
   have e1 : kc a = 1 := by unfold kc; rw [if_pos h1]
   have e2 : kc b = b.kind := by unfold kc; rw [if_neg h2]
   have e3 : ordI (kc a) (kc b) = ordI a.kind b.kind := by
    rw [e1, e2]
    rcases ordI_cases 1 b.kind with ⟨c, d⟩ | ⟨c, d⟩ | ⟨c, d⟩ <;> rcases ordI_cases a.kind b.kind with ⟨e, f⟩ | ⟨e, f⟩ | ⟨e, f⟩ <;> omega
   refine Eq.trans e3.symm (lex_no (f := fun x y => ordI (kc x) (kc y)) ?_).symm
   show ordI (kc a) (kc b) ≠ 0
   rw [e3]; rcases ordI_cases a.kind b.kind with ⟨e, f⟩ | ⟨e, f⟩ | ⟨e, f⟩ <;> omega
 ·rw [if_neg (fun h => h1 h.1)]
  have ha := (ofVer_no a).1 (by simpa using h1)
  have e1 : kc a = a.kind := by unfold kc; rw [if_neg h1]
  have e0 : vk a = noVer := by unfold vk; rw [if_neg h1]
  by_cases h2 : ofVer b = true
  ·have hb := (ofVer_iff b).1 h2
   have e2 : kc b = 1 := by unfold kc; rw [if_pos h2]
   have e3 : ordI (kc a) (kc b) = ordI a.kind b.kind := by
    rw [e1, e2]
    rcases ordI_cases a.kind 1 with ⟨c, d⟩ | ⟨c, d⟩ | ⟨c, d⟩ <;> rcases ordI_cases a.kind b.kind with ⟨e, f⟩ | ⟨e, f⟩ | ⟨e, f⟩ <;> omega
   refine Eq.trans e3.symm (lex_no (f := fun x y => ordI (kc x) (kc y)) ?_).symm
   show ordI (kc a) (kc b) ≠ 0
   rw [e3]; rcases ordI_cases a.kind b.kind with ⟨e, f⟩ | ⟨e, f⟩ | ⟨e, f⟩ <;> omega
  ·have e2 : kc b = b.kind := by unfold kc; rw [if_neg h2]
   have e4 : vk b = noVer := by unfold vk; rw [if_neg h2]
   by_cases h3 : ordI (kc a) (kc b) = 0
   ·refine Eq.trans ?_ (lex_yes (f := fun x y => ordI (kc x) (kc y)) h3).symm
    exact (lex_yes (f := fun x y => cmpV (vk x) (vk y)) (g := fun x y : Cut => ordI x.kind y.kind) (by show cmpV (vk a) (vk b) = 0; rw [e0, e4]; exact cmpV_ordr.self noVer)).symm
   ·refine Eq.trans ?_ (lex_no (f := fun x y => ordI (kc x) (kc y)) h3).symm
    show ordI a.kind b.kind = ordI (kc a) (kc b)
    rw [e1, e2]
theorem stand_ordr : Ordr stand := by
 have h : stand = lex (fun x y => ordI (kc x) (kc y)) (lex (fun x y => cmpV (vk x) (vk y)) fun x y => ordI x.kind y.kind) := by
  funext a b; exact stand_lex a b
 rw [h]
 exact (ordI_ordr.on kc).lex ((cmpV_ordr.on vk).lex (ordI_ordr.on Cut.kind))
theorem stand_flip (a b : Cut) : stand b a = 0 - stand a b := stand_ordr.flip a b
theorem stand_self (a : Cut) : stand a a = 0 := stand_ordr.self a
theorem le_le {a b c : Cut} (h1 : stand a b ≤ 0) (h2 : stand b c ≤ 0) : stand a c ≤ 0 := stand_ordr.trans a b c h1 h2
theorem le_lt {a b c : Cut} (h1 : stand a b ≤ 0) (h2 : stand b c < 0) : stand a c < 0 := by
 have h3 := le_le h1 (show stand b c ≤ 0 by omega)
 rcases Int.lt_or_eq_of_le h3 with h | h
 ·exact h
 ·have h4 := stand_flip a c
  have h5 := le_le (show stand c a ≤ 0 by omega) h1
  have h6 := stand_flip b c
  omega
theorem lt_le {a b c : Cut} (h1 : stand a b < 0) (h2 : stand b c ≤ 0) : stand a c < 0 := by
 have h3 := le_le (show stand a b ≤ 0 by omega) h2
 rcases Int.lt_or_eq_of_le h3 with h | h
 ·exact h
 ·have h4 := stand_flip a c
  have h5 := le_le h2 (show stand c a ≤ 0 by omega)
  have h6 := stand_flip a b
  omega
theorem lt_lt {a b c : Cut} (h1 : stand a b < 0) (h2 : stand b c < 0) : stand a c < 0 := le_lt (by omega) h2
theorem not_lt {a b : Cut} (h : ¬ stand a b < 0) : stand b a ≤ 0 := by have := stand_flip a b; omega
theorem not_le {a b : Cut} (h : ¬ stand a b ≤ 0) : stand b a < 0 := by have := stand_flip a b; omega
theorem lt_not {a b : Cut} (h : stand a b < 0) : ¬ stand b a ≤ 0 := by have := stand_flip a b; omega
theorem le_not {a b : Cut} (h : stand a b ≤ 0) : ¬ stand b a < 0 := by have := stand_flip a b; omega
theorem like_flip {a b : Cut} (h : stand a b = 0) : stand b a = 0 := by have := stand_flip a b; omega

def inOne (s : Sp) (c : Cut) : Prop := stand s.lo c ≤ 0 ∧ stand c s.hi < 0
def inS (l : List Sp) (c : Cut) : Prop := ∃ s ∈ l, inOne s c
def cnt (s : Sp) : Bool := right s.lo && (right s.hi && decide (stand s.lo s.hi < 0))
theorem cnt_iff (s : Sp) : cnt s = true ↔ right s.lo = true ∧ right s.hi = true ∧ stand s.lo s.hi < 0 := by simp [cnt]
def inR (l : List Sp) (c : Cut) : Prop := ∃ s ∈ l, cnt s = true ∧ inOne s c
structure Norm (l : List Sp) : Prop where
 cnt : ∀ s ∈ l, cnt s = true
 gap : l.Pairwise fun s t => stand s.hi t.lo < 0
theorem Norm.nil : Norm [] := ⟨(fun s h => by cases h), List.Pairwise.nil⟩
theorem Norm.tail {s : Sp} {l : List Sp} (h : Norm (s :: l)) : Norm l := ⟨fun t ht => h.cnt t (List.mem_cons_of_mem _ ht), (List.pairwise_cons.1 h.gap).2⟩
theorem Norm.ahead {s : Sp} {l : List Sp} (h : Norm (s :: l)) : ∀ t ∈ l, stand s.hi t.lo < 0 := (List.pairwise_cons.1 h.gap).1
theorem Norm.head {s : Sp} {l : List Sp} (h : Norm (s :: l)) : right s.lo = true ∧ right s.hi = true ∧ stand s.lo s.hi < 0 := (cnt_iff s).1 (h.cnt s (List.mem_cons_self ..))
theorem Norm.inR {l : List Sp} (h : Norm l) (c : Cut) : inR l c ↔ inS l c := ⟨fun ⟨s, hs, _, hi⟩ => ⟨s, hs, hi⟩, fun ⟨s, hs, hi⟩ => ⟨s, hs, h.cnt s hs, hi⟩⟩
inductive Like : List Sp → List Sp → Prop
 | nil : Like [] []
 | cons {s t : Sp} {l m : List Sp} : stand s.lo t.lo = 0 → stand s.hi t.hi = 0 → Like l m → Like (s :: l) (t :: m)
theorem first_le {s : Sp} {l : List Sp} (h : Norm (s :: l)) {t : Sp} (ht : t ∈ s :: l) : stand s.lo t.lo ≤ 0 := by
 rcases List.mem_cons.1 ht with rfl | ht
 ·rw [stand_self]; exact Int.le_refl 0
 ·have h1 := h.ahead t ht
  have h2 := h.head.2.2
  have := lt_lt h2 h1
  omega
theorem unique : ∀ {l m : List Sp}, Norm l → Norm m → (∀ c, inS l c ↔ inS m c) → Like l m
 | [], [], _, _, _ => Like.nil
 | [], t :: m, _, hm, h => by
  obtain ⟨s, hs, _⟩ := (h t.lo).2 ⟨t, List.mem_cons_self .., by rw [stand_self]; exact Int.le_refl 0, hm.head.2.2⟩
  cases hs
 | s :: l, [], hl, _, h => by
  obtain ⟨t, ht, _⟩ := (h s.lo).1 ⟨s, List.mem_cons_self .., by rw [stand_self]; exact Int.le_refl 0, hl.head.2.2⟩
  cases ht
 | s :: l, t :: m, hl, hm, h => by
  have hs := hl.head.2.2
  have ht := hm.head.2.2
  obtain ⟨t', ht', i1⟩ := (h s.lo).1 ⟨s, List.mem_cons_self .., by rw [stand_self]; exact Int.le_refl 0, hs⟩
  obtain ⟨s', hs', i2⟩ := (h t.lo).2 ⟨t, List.mem_cons_self .., by rw [stand_self]; exact Int.le_refl 0, ht⟩
  have e1 := le_le (first_le hm ht') i1.1
  have e2 := le_le (first_le hl hs') i2.1
  have el : stand s.lo t.lo = 0 := by have := stand_flip s.lo t.lo; omega
  have eh : stand s.hi t.hi = 0 := by
   rcases Int.lt_trichotomy (stand s.hi t.hi) 0 with g | g | g
   ·exfalso
    obtain ⟨x, hx, i3⟩ := (h s.hi).2 ⟨t, List.mem_cons_self .., le_le e1 (by omega), g⟩
    rcases List.mem_cons.1 hx with rfl | hx
    ·have := i3.2; rw [stand_self] at this; omega
    ·exact lt_not (hl.ahead x hx) i3.1
   ·exact g
   ·exfalso
    have g2 : stand t.hi s.hi < 0 := by have := stand_flip s.hi t.hi; omega
    obtain ⟨x, hx, i3⟩ := (h t.hi).1 ⟨s, List.mem_cons_self .., le_le e2 (by omega), g2⟩
    rcases List.mem_cons.1 hx with rfl | hx
    ·have := i3.2; rw [stand_self] at this; omega
    ·exact lt_not (hm.ahead x hx) i3.1
  refine Like.cons el eh (unique hl.tail hm.tail fun c => ⟨fun ⟨x, hx, i⟩ => ?_, fun ⟨x, hx, i⟩ => ?_⟩)
  ·obtain ⟨y, hy, j⟩ := (h c).1 ⟨x, List.mem_cons_of_mem _ hx, i⟩
   rcases List.mem_cons.1 hy with rfl | hy
   ·exfalso
    have h1 := lt_le (hl.ahead x hx) i.1
    have h2 := lt_lt h1 j.2
    have := stand_flip s.hi y.hi
    omega
   ·exact ⟨y, hy, j⟩
  ·obtain ⟨y, hy, j⟩ := (h c).2 ⟨x, List.mem_cons_of_mem _ hx, i⟩
   rcases List.mem_cons.1 hy with rfl | hy
   ·exfalso
    have h1 := lt_le (hm.ahead x hx) i.1
    have h2 := lt_lt h1 j.2
    have := stand_flip y.hi t.hi
    omega
   ·exact ⟨y, hy, j⟩

theorem sameV_none {v : Ver} (h : sameV v noVer = true) : v = noVer := by
 unfold sameV at h
 rw [Bool.and_eq_true, decide_eq_true_eq, Bool.and_eq_true, sameB_iff, sameB_iff] at h
 obtain ⟨⟨h1, h2, h3⟩, h4, h5⟩ := h
 cases v; simp only [noVer] at *; subst h1; subst h2; subst h3; subst h4; subst h5; rfl
theorem good_len (pre : Bool) : ∀ (xs : List (List UInt8)) (i : Nat), i ≤ 16 → goodFrom pre xs i = true → i + xs.length ≤ 16
 | [], i, hi, _ => by simpa using hi
 | x :: r, i, hi, h => by
  rw [goodFrom] at h
  simp only [Bool.and_eq_true, beq_iff_eq] at h
  have h1 := (fault_pos h.1.1).2.2
  have := good_len pre r (i + 1) (by omega) h.2
  simp; omega
theorem right_few {c : Cut} (h : right c = true) : c.v.pre.length ≤ 16 ∧ c.v.build = [] := by
 by_cases h1 : c.kind = 0 ∨ c.kind = 3
 ·rw [right_ends h1] at h
  rw [sameV_none h]; exact ⟨by simp [noVer], rfl⟩
 ·by_cases h2 : c.kind = 1 ∨ c.kind = 2
  ·rw [right_ver h2, Bool.and_eq_true, decide_eq_true_eq] at h
   refine ⟨?_, List.eq_nil_of_length_eq_zero h.2⟩
   have hg := h.1
   unfold goodV at hg
   rw [Bool.and_eq_true, Bool.and_eq_true] at hg
   have := good_len true c.v.pre 0 (by omega) hg.2.1
   omega
  ·rw [right_none h1 h2] at h; cases h
theorem right_bare {c : Cut} (h : right c = true) : bare c.v = c.v := by
 have := (right_few h).2
 unfold bare; rw [← this]
theorem low_right : right low = true := by rw [right_ends (.inl rfl)]; exact sameV_self noVer
theorem high_right : right high = true := by rw [right_ends (.inr rfl)]; exact sameV_self noVer
theorem low_high : stand low high < 0 := by
 unfold stand; rw [if_neg (by rintro ⟨h, _⟩; exact absurd h (by decide))]; exact (show (-1 : Int) < 0 by omega)
theorem right_kind {c : Cut} (h : right c = true) : c.kind = 0 ∨ c.kind = 1 ∨ c.kind = 2 ∨ c.kind = 3 := by
 by_cases h1 : c.kind = 0 ∨ c.kind = 3
 ·omega
 ·by_cases h2 : c.kind = 1 ∨ c.kind = 2
  ·omega
  ·rw [right_none h1 h2] at h; cases h
theorem stand_kind {a b : Cut} (h : ¬ (ofVer a = true ∧ ofVer b = true)) : stand a b = ordI a.kind b.kind := by
 unfold stand; rw [if_neg (fun k => h ⟨k.1, k.2.1⟩)]
theorem low_le {c : Cut} (h : right c = true) : stand low c ≤ 0 := by
 rw [stand_kind (by rintro ⟨h, _⟩; exact absurd h (by decide))]
 have := right_kind h
 have e : low.kind = 0 := rfl
 rcases ordI_cases low.kind c.kind with ⟨a, b⟩ | ⟨a, b⟩ | ⟨a, b⟩ <;> omega
theorem le_high {c : Cut} (h : right c = true) : stand c high ≤ 0 := by
 rw [stand_kind (by rintro ⟨_, h⟩; exact absurd h (by decide))]
 have := right_kind h
 have e : high.kind = 3 := rfl
 rcases ordI_cases c.kind high.kind with ⟨a, b⟩ | ⟨a, b⟩ | ⟨a, b⟩ <;> omega

def aheadOf (v : Ver) : Cut := ⟨1, bare v⟩
def behindOf (v : Ver) : Cut := ⟨2, bare v⟩
theorem ahead_behind (v : Ver) : stand (aheadOf v) (behindOf v) < 0 := by
 have h : cmpV (bare v) (bare v) = 0 := cmpV_ordr.self _
 unfold stand
 rw [if_neg (fun k => k.2.2 h)]; exact (show (-1 : Int) < 0 by omega)
theorem behind_le (c : Cut) (v : Ver) : stand (aheadOf v) c < 0 ↔ stand (behindOf v) c ≤ 0 := by
 constructor
 ·intro hc
  by_cases hv : ofVer c = true
  ·have hk := (ofVer_iff c).1 hv
   by_cases h0 : cmpV (bare v) c.v = 0
   ·have e1 : stand (aheadOf v) c = ordI 1 c.kind := by unfold stand; rw [if_neg (fun k => k.2.2 h0)]; rfl
    have e2 : stand (behindOf v) c = ordI 2 c.kind := by unfold stand; rw [if_neg (fun k => k.2.2 h0)]; rfl
    rw [e1] at hc
    rw [e2]
    rcases ordI_cases 1 c.kind with ⟨a, b⟩ | ⟨a, b⟩ | ⟨a, b⟩ <;> rcases ordI_cases 2 c.kind with ⟨e, f⟩ | ⟨e, f⟩ | ⟨e, f⟩ <;> omega
   ·have e1 : stand (aheadOf v) c = cmpV (bare v) c.v := by unfold stand; rw [if_pos ⟨rfl, hv, h0⟩]; rfl
    have e2 : stand (behindOf v) c = cmpV (bare v) c.v := by unfold stand; rw [if_pos ⟨rfl, hv, h0⟩]; rfl
    omega
  ·have hk := (ofVer_no c).1 (by simpa using hv)
   rw [stand_kind (fun k => hv k.2)] at hc ⊢
   have e1 : (aheadOf v).kind = 1 := rfl
   have e2 : (behindOf v).kind = 2 := rfl
   rcases ordI_cases (aheadOf v).kind c.kind with ⟨a, b⟩ | ⟨a, b⟩ | ⟨a, b⟩ <;> rcases ordI_cases (behindOf v).kind c.kind with ⟨e, f⟩ | ⟨e, f⟩ | ⟨e, f⟩ <;> omega
 ·intro hc
  exact lt_le (ahead_behind v) hc

def goodS (l : List Sp) : Bool := (List.range l.length).all fun i => cnt (l.getD i default) && (decide (i = 0) || decide (stand (l.getD (i - 1) default).hi (l.getD i default).lo < 0))
theorem goodS_iff (l : List Sp) : goodS l = true ↔ ∀ i, i < l.length → cnt (l.getD i default) = true ∧ (i = 0 ∨ stand (l.getD (i - 1) default).hi (l.getD i default).lo < 0) := by
 simp [goodS, List.all_eq_true]
theorem goodS_cons {s : Sp} {l : List Sp} : goodS (s :: l) = true ↔ cnt s = true ∧ (l = [] ∨ stand s.hi (l.getD 0 default).lo < 0) ∧ goodS l = true := by
 rw [goodS_iff, goodS_iff]
 constructor
 ·intro h
  have h0 := h 0 (by simp)
  refine ⟨h0.1, ?_, fun i hi => ?_⟩
  ·cases l with
   | nil => exact .inl rfl
   | cons t l =>
    have h1 := h 1 (by simp)
    rcases h1.2 with h2 | h2
    ·omega
    ·exact .inr h2
  ·have h1 := h (i + 1) (by simp; omega)
   refine ⟨h1.1, ?_⟩
   rcases Nat.eq_zero_or_pos i with h2 | h2
   ·exact .inl h2
   ·right
    rcases h1.2 with h3 | h3
    ·omega
    ·obtain ⟨j, rfl⟩ : ∃ j, i = j + 1 := ⟨i - 1, by omega⟩
     exact h3
 ·rintro ⟨h1, h2, h3⟩ i hi
  rcases Nat.eq_zero_or_pos i with h4 | h4
  ·subst h4; exact ⟨h1, .inl rfl⟩
  ·obtain ⟨j, rfl⟩ : ∃ j, i = j + 1 := ⟨i - 1, by omega⟩
   have h5 := h3 j (by simp at hi; omega)
   refine ⟨h5.1, .inr ?_⟩
   rcases Nat.eq_zero_or_pos j with h6 | h6
   ·subst h6
    rcases h2 with h7 | h7
    ·subst h7; simp at hi
    ·exact h7
   ·obtain ⟨k, rfl⟩ : ∃ k, j = k + 1 := ⟨j - 1, by omega⟩
    rcases h5.2 with h7 | h7
    ·omega
    ·exact h7
theorem goodS_norm : ∀ l : List Sp, goodS l = true ↔ Norm l
 | [] => ⟨fun _ => Norm.nil, fun _ => rfl⟩
 | s :: l => by
  rw [goodS_cons, goodS_norm l]
  constructor
  ·rintro ⟨h1, h2, h3⟩
   refine ⟨fun t ht => ?_, List.pairwise_cons.2 ⟨fun t ht => ?_, h3.gap⟩⟩
   ·rcases List.mem_cons.1 ht with rfl | ht
    ·exact h1
    ·exact h3.cnt t ht
   ·cases l with
    | nil => cases ht
    | cons x l =>
     rcases h2 with h2 | h2
     ·cases h2
     ·exact lt_le h2 (first_le h3 ht)
  ·intro h
   refine ⟨h.cnt s (List.mem_cons_self ..), ?_, h.tail⟩
   cases l with
   | nil => exact .inl rfl
   | cons x l => exact .inr (h.ahead x (List.mem_cons_self ..))
end Go.Proofs.YtgfbflnhjpbceaaGreatDoor.Span
namespace Go.Proofs.YtgfbflnhjpbceaaGreatDoor.Nrm
open Go.RowKit Num Ident Semver
open Range (Rng noRng goodR goodL fits wt wtL RV RAt OpsTab Keep KeepS LtB zeroRV LenOk)
mutual
def tot : Rng → Nat
 | .mk _ v l => 1 + v.pre.length + v.build.length + totL l
def totL : List Rng → Nat
 | [] => 0
 | r :: rs => tot r + totL rs
end
theorem tot_eq (r : Rng) : tot r = 1 + r.ver.pre.length + r.ver.build.length + totL r.subs := by obtain ⟨k, v, l⟩ := r; rfl
theorem totL_take : ∀ (l : List Rng) (k : Nat), k < l.length → totL (l.take (k + 1)) = totL (l.take k) + tot (l.getD k noRng)
 | [], k, h => absurd h (Nat.not_lt_zero _)
 | r :: rs, 0, _ => by show tot r + totL (rs.take 0) = 0 + tot r; rw [List.take_zero]; show tot r + 0 = _; omega
 | r :: rs, k + 1, h => by
  show tot r + totL (rs.take (k + 1)) = tot r + totL (rs.take k) + tot (rs.getD k noRng)
  rw [totL_take rs k (by simpa using h)]; omega
theorem good_modest {r : Rng} {d : Nat} (h : goodR r d = true) : r.ver.pre.length ≤ 16 ∧ r.ver.build.length ≤ 16 := by
 obtain ⟨k, v, l⟩ := r
 rw [Range.goodR_eq, Bool.and_eq_true, Bool.and_eq_true] at h
 have h2 := h.1.2
 show v.pre.length ≤ 16 ∧ v.build.length ≤ 16
 cases ho : Range.ofVersion k with
 | true =>
  rw [Range.fits_ver ho, Bool.and_eq_true] at h2
  have h3 := h2.1
  unfold goodV at h3
  rw [Bool.and_eq_true, Bool.and_eq_true] at h3
  have a := Span.good_len true v.pre 0 (by omega) h3.2.1
  have b := Span.good_len false v.build 0 (by omega) h3.2.2
  omega
 | false =>
  cases hs : sameV v noVer with
  | false => rw [Range.fits_un ho hs] at h2; cases h2
  | true => rw [Span.sameV_none hs]; exact ⟨by decide, by decide⟩
theorem good_sub {r : Rng} {d j : Nat} (h : goodR r d = true) (hj : j < r.subs.length) : ∃ d', goodR (r.subs.getD j noRng) d' = true := by
 obtain ⟨k, v, l⟩ := r
 rw [Range.goodR_eq, Bool.and_eq_true] at h
 exact ⟨_, Range.goodL_at.1 h.2 j hj⟩
def Tells (r : Rng) (most z : Int) : Prop := (∃ d, goodR r d = true) → 0 ≤ most → most ≤ 1000 → 0 ≤ z ∧ z ≤ most + 33 ∧ (z ≤ most → (tot r : Int) ≤ z)
theorem great_full : ∀ (m : Nat) (r : Rng) (x : RV) (B : Nat) (most : Int) (w : World), wt r ≤ m → LenOk r → Range.Lies w (LtB B) r x → B ≤ w.heap.size →
  Calls Tryz.prog 9 #[x.agg, .int .i64 most] w fun e w' => ∃ z : Int, e = .returned (.int .i64 z) ∧ Tells r most z ∧ Below w.heap.size w w'
 | 0, r, x, B, d, w, hm, _, hx, hB => by rw [Range.wt_eq] at hm; omega
 | m + 1, r, x, B, most, w, hm, hln0, hx, hB => by
  have IH := Lib.hid (fun r x most w => great_full m r x B most w)
  have hs := hx.says
  obtain ⟨f, hln, _, _⟩ := hs.subs
  have HB : Hid (Below w.heap.size w (w.alloc (.cells #[.int .i64 x.kind, .int .u64 (x.v.a : Int), .int .u64 (x.v.b : Int), .int .u64 (x.v.c : Int), .slice x.A x.v.pre.length x.c, .slice x.B x.v.build.length x.d, .slice x.L x.n x.e] 28))) := (Below.refl _ _).alloc (Nat.le_refl _) _
  have HRA : Hid (RAt (w.alloc (.cells #[.int .i64 x.kind, .int .u64 (x.v.a : Int), .int .u64 (x.v.b : Int), .int .u64 (x.v.c : Int), .slice x.A x.v.pre.length x.c, .slice x.B x.v.build.length x.d, .slice x.L x.n x.e] 28)) w.heap.size x) := RAt.new w _ x
  have HL := Lib.hid (hx.keep (KeepS.of_below (S := LtB B) HB.out))
  rw [Range.wt_eq] at hm
  have hlo := hln0.here
  have HLO := Lib.hid hln0
  have HT : Hid (tot r = 1 + x.v.pre.length + x.v.build.length + totL (r.subs.take x.n)) := by
   unfold Hid
   rw [tot_eq, ← hln, List.take_length, hs.ver]
  have HM : Hid ((∃ d, goodR r d = true) → x.v.pre.length ≤ 16 ∧ x.v.build.length ≤ 16) := fun ⟨d, h⟩ => by have := good_modest h; rw [hs.ver] at this; exact this
  have hnx : x.n ≤ 9223372036854775807 := by rw [← hln]; exact hlo
  have HLN := Lib.hid hln
  clear hs hx hln hln0 hlo
  unfold RV.agg
  go_enter Tryz.func9, Tryz.ntmps9
  go_upto_region 1 with (fail)
  generalize w.alloc (.cells #[.int .i64 x.kind, .int .u64 (x.v.a : Int), .int .u64 (x.v.b : Int), .int .u64 (x.v.c : Int), .slice x.A x.v.pre.length x.c, .slice x.B x.v.build.length x.d, .slice x.L x.n x.e] 28) = W at HB HRA HL ⊢
  obtain ⟨y1, y2, c0, c1, c2, c3, c4, c5, c6⟩ := HRA.out
  have HN0 : Hid (x.v.pre.length ≤ 16 ∧ x.v.build.length ≤ 16 → wrap64 (wrap64 (1 + (x.v.pre.length : Int)) + (x.v.build.length : Int)) = 1 + x.v.pre.length + x.v.build.length) := fun h => by unfold wrap64; omega
  go_wp2
  generalize wrap64 (wrap64 (1 + (x.v.pre.length : Int)) + (x.v.build.length : Int)) = n0 at HN0 ⊢
  generalize wrap64 (1 + (x.v.pre.length : Int)) = n1
  clear c0 c1 c2 c3 c4 c5 c6 y1 y2
  go_loopw [5, 6] (fun nv iv W' => ∃ (n : Int) (k : Nat), nv = .int .i64 n ∧ k ≤ x.n ∧ iv = .int .i64 (k : Int) ∧ Hid (Below W.heap.size W W') ∧ Hid ((∃ d, goodR r d = true) → 0 ≤ most → most ≤ 1000 → 0 ≤ n ∧ n ≤ most + 33 ∧ (n ≤ most → ((1 + x.v.pre.length + x.v.build.length + totL (r.subs.take k) : Nat) : Int) ≤ n))) (fun _ iv _ => x.n - (intOf iv).toNat)
  case atStart => exact ⟨n0, 0, rfl, Nat.zero_le _, rfl, Below.refl _ _, fun hg h0 h1 => by
   have hm := HM.out hg
   have := HN0.out hm
   refine ⟨by omega, by omega, fun _ => ?_⟩
   rw [List.take_zero]
   show ((1 + x.v.pre.length + x.v.build.length + 0 : Nat) : Int) ≤ n0
   omega⟩
  case round =>
   obtain ⟨n, k, rfl, hk, rfl, HB3, HQ⟩ := hrel
   have HR3 := Lib.hid (HRA.out.kept HB3.out HRA.out.1)
   obtain ⟨y1, y2, c0, c1, c2, c3, c4, c5, c6⟩ := HR3.out
   by_cases hlt : k < x.n
   ·by_cases hnm : n ≤ most
    ·obtain ⟨b, o, c, hLe, hSb, hcl, hcy⟩ := HL.out.says.subs.one hlt
     have hll : k < r.subs.length := by rw [HLN.out]; exact hlt
     have hmem : r.subs.getD k noRng ∈ r.subs := by
      rw [List.getD_eq_getElem?_getD, List.getElem?_eq_getElem (by omega)]; exact List.getElem_mem _
     have hwt : wt (r.subs.getD k noRng) ≤ m := by have := Range.wt_mem hmem; omega
     have HTK := Lib.hid (totL_take r.subs k hll)
     have HSub : Hid ((∃ d, goodR r d = true) → ∃ d, goodR (r.subs.getD k noRng) d = true) := fun ⟨d, h⟩ => good_sub h hll
     have hlo := HLO.out.sub hmem
     generalize r.subs.getD k noRng = q at hcy hwt HTK HSub hlo
     have hcw := (hcl.keep (KeepS.of_below (S := LtB B) HB3.out) hSb).cells
     obtain ⟨e0, e1, e2, e3, e4, e5, e6⟩ := hcw
     rw [hLe] at c6 ⊢
     clear hLe
     have HLc : Hid (Range.Lies wr (LtB B) q c) := hcy.keep (KeepS.of_below (S := LtB B) HB3.out)
     have hBr : B ≤ wr.heap.size := Nat.le_trans hB (Nat.le_trans HB.out.size HB3.out.size)
     clear hcl hcy hmem
     go_wp2_with fail
     refine (IH.out q c (wrap64 (most - n)) wr hwt hlo HLc.out hBr).mono ?_
     rintro e W3 ⟨z, rfl, hz, hb⟩
     have HB4 := Lib.hid (HB3.out.trans (hb.mono HB3.out.size))
     have HZ := Lib.hid hz
     clear hb hz c0 c1 c2 c3 c4 c5 c6 e0 e1 e2 e3 e4 e5 e6 y1 y2 HB3 HR3
     go_wp2
     refine ⟨⟨wrap64 (n + z), k + 1, rfl, by omega, by go_num, HB4.out, fun hg h0 h1 => ?_⟩, by simp [intOf]; omega⟩
     have q1 := HQ.out hg h0 h1
     have hw1 : wrap64 (most - n) = most - n := by unfold wrap64; omega
     have q2 := HZ.out
     rw [hw1] at q2
     have q3 := q2 (HSub.out hg) (by omega) (by omega)
     have hw2 : wrap64 (n + z) = n + z := by unfold wrap64; omega
     rw [hw2, HTK.out]
     refine ⟨by omega, by omega, fun h => ?_⟩
     have a := q1.2.2 hnm
     have b := q3.2.2 (by omega)
     omega
    ·go_wp2
     go_ret
     exact ⟨n, rfl, fun hg h0 h1 => ⟨(HQ.out hg h0 h1).1, (HQ.out hg h0 h1).2.1, fun h => absurd h (by omega)⟩, HB.out.trans (HB3.out.mono HB.out.size)⟩
   ·obtain rfl : k = x.n := by omega
    go_wp2
    go_ret
    exact ⟨n, rfl, fun hg h0 h1 => ⟨(HQ.out hg h0 h1).1, (HQ.out hg h0 h1).2.1, fun h => by rw [HT.out]; exact (HQ.out hg h0 h1).2.2 h⟩, HB.out.trans (HB3.out.mono HB.out.size)⟩
theorem Tells.small {r : Rng} {most z : Int} (h : Tells r most z) (hm : 0 ≤ most ∧ most ≤ 1000) (hz : ¬ most < z) : (∃ d, goodR r d = true) → (tot r : Int) ≤ most := fun hg => by
 have := (h hg hm.1 hm.2).2.2 (by omega)
 omega
mutual
theorem wt_tot : ∀ r : Rng, wt r ≤ tot r
 | .mk k v l => by
  show 1 + wtL l ≤ 1 + v.pre.length + v.build.length + totL l
  have := wt_totL l
  omega
theorem wt_totL : ∀ l : List Rng, wtL l ≤ totL l
 | [] => Nat.le_refl _
 | r :: rs => by
  show wt r + wtL rs ≤ tot r + totL rs
  have := wt_tot r
  have := wt_totL rs
  omega
end
end Go.Proofs.YtgfbflnhjpbceaaGreatDoor.Nrm
namespace Go.Proofs.YtgfbflnhjpbceaaGreatDoor.Prec
open Go.RowKit

theorem run_eq3 (n0 n1 n2 m0 m1 m2 : Int) (w : World) :
  (Op.equalIn 10000 147 (.agg #[.int .u64 n0, .int .u64 n1, .int .u64 n2]) (.agg #[.int .u64 m0, .int .u64 m1, .int .u64 m2])).run Tryz.prog w = .ok (n0 == m0 && (n1 == m1 && n2 == m2)) w := by
 obtain ⟨i, hi⟩ := Option.isSome_iff_exists.1 (show (Tryz.prog.info? 22).isSome = true by kernel_rfl)
 have hc : Tryz.prog.cellsOf 22 = 1 := by kernel_rfl
 have hp : Tryz.prog.plainKey 22 = true := by kernel_rfl
 have q0 := run_part_plain (P := Tryz.prog) w hp (xs := #[.int .u64 n0, .int .u64 n1, .int .u64 n2]) (off := 0) rfl
 have q1 := run_part_plain (P := Tryz.prog) w hp (xs := #[.int .u64 n0, .int .u64 n1, .int .u64 n2]) (off := 1) rfl
 have q2 := run_part_plain (P := Tryz.prog) w hp (xs := #[.int .u64 n0, .int .u64 n1, .int .u64 n2]) (off := 2) rfl
 have p0 := run_part_plain (P := Tryz.prog) w hp (xs := #[.int .u64 m0, .int .u64 m1, .int .u64 m2]) (off := 0) rfl
 have p1 := run_part_plain (P := Tryz.prog) w hp (xs := #[.int .u64 m0, .int .u64 m1, .int .u64 m2]) (off := 1) rfl
 have p2 := run_part_plain (P := Tryz.prog) w hp (xs := #[.int .u64 m0, .int .u64 m1, .int .u64 m2]) (off := 2) rfl
 have e := fun a b : Int => run_equalIn_int (P := Tryz.prog) w 9998 22 .u64 .u64 a b Tryz.underlying22
 rw [run_equalIn_array w 9999 _ _ Tryz.underlying147 hi, hc, show List.range 3 = [0, 1, 2] from rfl]
 simp only [Op.eqItems, Sem.run_bind, Nat.mul_one, q0, p0, Result.andThen_ok]
 cases h0 : n0 == m0 <;> cases h1 : n1 == m1 <;> cases h2 : n2 == m2 <;> simp [q1, q2, p1, p2, e, h0, h1, h2]
end Go.Proofs.YtgfbflnhjpbceaaGreatDoor.Prec
namespace Go.Proofs.YtgfbflnhjpbceaaGreatDoor.Num
open Go.RowKit

theorem cmp_any (x y : Nat) (w : World) :
  Calls Tryz.prog 80 #[.int .i64 x, .int .i64 y] w fun e w' => e = .returned (.int .i64 (ordN x y)) ∧ w = w' := by
 rcases Nat.lt_trichotomy x y with h | h | h
 ·have HF := Lib.hid (ordN_lt h)
  go_enter Tryz.func80, Tryz.ntmps80
  go_wp2
  go_ret
  exact ⟨by rw [HF.out]; rfl, rfl⟩
 ·have HF := Lib.hid (ordN_eq h)
  subst h
  go_enter Tryz.func80, Tryz.ntmps80
  go_wp2
  go_ret
  exact ⟨by rw [HF.out]; rfl, rfl⟩
 ·have HF := Lib.hid (ordN_gt h)
  go_enter Tryz.func80, Tryz.ntmps80
  go_wp2
  go_ret
  exact ⟨by rw [HF.out]; rfl, rfl⟩

theorem strcmp_any (s t : ByteArray) (w : World) :
  Calls Tryz.prog 180 #[.string s, .string t] w fun e w' => e = .returned (.int .i64 (Lib.compareBytes s.data.toList t.data.toList)) ∧ w = w' := by
 have hx : ∀ W, (callFunc 200 #[.string s, .string t]).run Tryz.prog W = .ok (.value (.int .i64 (Lib.compareBytes s.data.toList t.data.toList))) W := fun W => by
  rw [run_callFunc_extern Tryz.func200 (by kernel_rfl) (by kernel_rfl) (by kernel_rfl) (e := Extern.BytealgCompare.compare) (by kernel_rfl), Lib.run_compareString]
  rfl
 generalize Lib.compareBytes s.data.toList t.data.toList = r at hx ⊢
 go_enter Tryz.func180, Tryz.ntmps180
 go_wp2
 go_ret
 exact ⟨rfl, rfl⟩

theorem compare_anyD (s t : ByteArray) (w : World) (hs : s.size ≤ maxLen) (ht : t.size ≤ maxLen) :
  Calls Tryz.prog 189 #[.string s, .string t] w fun e w' => e = .returned (.int .i64 (cmpNum s.data.toList t.data.toList)) ∧ BelowD w.heap.size w w' := by
 have hs' := hs
 have ht' := ht
 unfold maxLen at hs' ht'
 have HS := Lib.hid hs
 have HT := Lib.hid ht
 clear hs ht
 have LS := Lib.hid (Lib.size_eq s)
 have LT := Lib.hid (Lib.size_eq t)
 cases ha : isNum s.data.toList
 ·have HF := Lib.hid (cmpNum_no (b := t.data.toList) (.inl ha))
  have HA := Lib.hid ha; clear ha
  go_enter Tryz.func189, Tryz.ntmps189
  go_wp2_with fail
  refine (is_anyD s _ HS.out).mono ?_
  rintro e w1 ⟨rfl, hb1⟩
  rw [HA.out]
  go_wp2
  go_ret
  exact ⟨by rw [HF.out]; rfl, hb1⟩
 ·cases hb : isNum t.data.toList
  ·have HF := Lib.hid (cmpNum_no (a := s.data.toList) (.inr hb))
   have HA := Lib.hid ha; clear ha
   have HB := Lib.hid hb; clear hb
   go_enter Tryz.func189, Tryz.ntmps189
   go_wp2_with fail
   refine (is_anyD s _ HS.out).mono ?_
   rintro e w1 ⟨rfl, hb1⟩
   rw [HA.out]
   go_wp2_with fail
   refine (is_anyD t _ HT.out).mono ?_
   rintro e w2 ⟨rfl, hb2⟩
   rw [HB.out]
   have hz1 := hb1.size
   go_wp2
   go_ret
   exact ⟨by rw [HF.out]; rfl, hb1.trans (hb2.mono hz1)⟩
  ·have HF := Lib.hid (cmpNum_yes ha hb)
   have HG := Lib.hid (fun h => ordN_lt (shorter ha hb h))
   have HG2 := Lib.hid (fun h => ordN_gt (shorter hb ha h))
   have HG3 := Lib.hid (fun h => alike_val ha hb h)
   have HA := Lib.hid ha; clear ha
   have HB := Lib.hid hb; clear hb
   go_enter Tryz.func189, Tryz.ntmps189
   go_wp2_with fail
   refine (is_anyD s _ HS.out).mono ?_
   rintro e w1 ⟨rfl, hb1⟩
   rw [HA.out]
   go_wp2_with fail
   refine (is_anyD t _ HT.out).mono ?_
   rintro e w2 ⟨rfl, hb2⟩
   rw [HB.out]
   have hz1 := hb1.size
   have HBB := Lib.hid (hb1.trans (hb2.mono hz1))
   go_wp2_with fail
   refine (cmp_any _ _ _).mono ?_
   rintro e w' ⟨rfl, rfl⟩
   rcases Nat.lt_trichotomy s.size t.size with h | h | h
   ·rw [ordN_lt h]
    go_wp2
    go_ret
    exact ⟨by rw [HF.out, HG.out (by rw [← LS.out, ← LT.out]; exact h)]; rfl, HBB.out⟩
   ·rw [ordN_eq h]
    have H := Lib.hid h; clear h
    go_wp2_with fail
    refine (strcmp_any _ _ _).mono ?_
    rintro e w' ⟨rfl, rfl⟩
    go_wp2
    go_ret
    exact ⟨by rw [HF.out, ← HG3.out (by rw [← LS.out, ← LT.out]; exact H.out)]; rfl, HBB.out⟩
   ·rw [ordN_gt h]
    go_wp2
    go_ret
    exact ⟨by rw [HF.out, HG2.out (by rw [← LS.out, ← LT.out]; exact h)]; rfl, HBB.out⟩
end Go.Proofs.YtgfbflnhjpbceaaGreatDoor.Num
namespace Go.Proofs.YtgfbflnhjpbceaaGreatDoor.Ident
open Go.RowKit Num

theorem trim_le (l : List UInt8) : (Lib.trimLeftB l 48).length ≤ l.length := (List.dropWhile_sublist _).length_le

theorem numeral_any (s : ByteArray) (w : World) :
  Calls Tryz.prog 190 #[.string s] w fun e w' => e = .returned (.string (mk (numeral s.data.toList))) ∧ w = w' := by
 obtain ⟨t, ht⟩ : ∃ t : ByteArray, (⟨(Lib.trimLeftB s.data.toList 48).toArray⟩ : ByteArray) = t := ⟨_, rfl⟩
 have HT := Lib.hid ht
 have hz : t.size = (Lib.trimLeftB s.data.toList 48).length := by rw [← ht]; rfl
 have HK : Hid (∀ W, Calls Tryz.prog 199 #[.string s, .string ⟨#[48]⟩] W fun e w' => e = .returned (.string t) ∧ w' = W) := fun W => by
  have := Tryz.strings_TrimLeft_one s 48 (by decide) W
  rw [ht] at this
  exact this
 clear ht
 by_cases h0 : t.size = 0
 ·have HF : Hid (numeral s.data.toList = [48]) := by unfold Hid numeral; rw [if_pos (by rw [← hz]; exact h0)]
  have hem := (empty_iff t).2 h0
  clear h0 hz
  go_enter Tryz.func190, Tryz.ntmps190
  go_wp2_with fail
  refine (HK.out _).mono ?_
  rintro e w' ⟨rfl, rfl⟩
  go_wp2
  go_ret
  exact ⟨by rw [HF.out]; rfl, rfl⟩
 ·have HF : Hid (numeral s.data.toList = Lib.trimLeftB s.data.toList 48) := by unfold Hid numeral; rw [if_neg (by rw [← hz]; exact h0)]
  have hem := (empty_no t).2 h0
  clear h0 hz
  go_enter Tryz.func190, Tryz.ntmps190
  go_wp2_with fail
  refine (HK.out _).mono ?_
  rintro e w' ⟨rfl, rfl⟩
  go_wp2
  go_ret
  exact ⟨by rw [HF.out, ← HT.out]; rfl, rfl⟩

theorem numeral_le (l : List UInt8) (h : 0 < l.length) : (numeral l).length ≤ l.length := by
 unfold numeral
 split
 ·simp; omega
 ·exact trim_le l

theorem numbers_anyD (s t : ByteArray) (w : World) (hs : s.size ≤ maxLen) (ht : t.size ≤ maxLen) (ha : numeric s.data.toList = true) (hb : numeric t.data.toList = true) :
  Calls Tryz.prog 179 #[.string s, .string t] w fun e w' => e = .returned (.int .i64 (cmpId s.data.toList t.data.toList)) ∧ BelowD w.heap.size w w' := by
 have HF : Hid (cmpId s.data.toList t.data.toList = if ordN (val s.data.toList) (val t.data.toList) = 0 then ordN s.data.toList.length t.data.toList.length else ordN (val s.data.toList) (val t.data.toList)) := by
  unfold Hid cmpId; rw [if_pos ha, if_pos hb]
 have HL := Lib.hid (Lib.size_eq s)
 have HM := Lib.hid (Lib.size_eq t)
 rw [numeric_iff] at ha hb
 have z1 : (mk (numeral s.data.toList)).size ≤ maxLen := by have := numeral_le _ ha.1; rw [mk_size]; rw [HL.out] at hs; omega
 have z2 : (mk (numeral t.data.toList)).size ≤ maxLen := by have := numeral_le _ hb.1; rw [mk_size]; rw [HM.out] at ht; omega
 have HC : Hid (∀ W, Calls Tryz.prog 189 #[.string (mk (numeral s.data.toList)), .string (mk (numeral t.data.toList))] W fun e w' => e = .returned (.int .i64 (ordN (val s.data.toList) (val t.data.toList))) ∧ BelowD W.heap.size W w') := fun W => by
  have := Num.compare_anyD (mk (numeral s.data.toList)) (mk (numeral t.data.toList)) W z1 z2
  rw [mk_list, mk_list, cmpNum_yes (numeral_num (all_of_run ha.2)) (numeral_num (all_of_run hb.2)), numeral_val, numeral_val] at this
  exact this
 clear z1 z2 ha hb
 unfold maxLen at hs ht
 generalize val s.data.toList = x at HC HF
 generalize val t.data.toList = y at HC HF
 rw [← HL.out, ← HM.out] at HF
 rcases ordN_cases x y with ⟨_, e⟩ | ⟨_, e⟩ | ⟨_, e⟩
 ·rw [e] at HC HF
  have HF2 : Hid (cmpId s.data.toList t.data.toList = -1) := by have := HF.out; rwa [if_neg (by omega)] at this
  clear e HF
  go_enter Tryz.func179, Tryz.ntmps179
  go_wp2_with fail
  refine (numeral_any s _).mono ?_
  rintro e w' ⟨rfl, rfl⟩
  go_wp2_with fail
  refine (numeral_any t _).mono ?_
  rintro e w' ⟨rfl, rfl⟩
  go_wp2_with fail
  refine (HC.out _).mono ?_
  rintro e w1 ⟨rfl, hb1⟩
  go_wp2
  go_ret
  exact ⟨by rw [HF2.out]; rfl, hb1⟩
 ·rw [e] at HC HF
  have HF2 : Hid (cmpId s.data.toList t.data.toList = ordN s.size t.size) := by have := HF.out; rwa [if_pos rfl] at this
  clear e HF
  go_enter Tryz.func179, Tryz.ntmps179
  go_wp2_with fail
  refine (numeral_any s _).mono ?_
  rintro e w' ⟨rfl, rfl⟩
  go_wp2_with fail
  refine (numeral_any t _).mono ?_
  rintro e w' ⟨rfl, rfl⟩
  go_wp2_with fail
  refine (HC.out _).mono ?_
  rintro e w1 ⟨rfl, hb1⟩
  go_wp2_with fail
  refine (cmp_any _ _ _).mono ?_
  rintro e w' ⟨rfl, rfl⟩
  go_wp2
  go_ret
  exact ⟨by rw [HF2.out]; rfl, hb1⟩
 ·rw [e] at HC HF
  have HF2 : Hid (cmpId s.data.toList t.data.toList = 1) := by have := HF.out; rwa [if_neg (by omega)] at this
  clear e HF
  go_enter Tryz.func179, Tryz.ntmps179
  go_wp2_with fail
  refine (numeral_any s _).mono ?_
  rintro e w' ⟨rfl, rfl⟩
  go_wp2_with fail
  refine (numeral_any t _).mono ?_
  rintro e w' ⟨rfl, rfl⟩
  go_wp2_with fail
  refine (HC.out _).mono ?_
  rintro e w1 ⟨rfl, hb1⟩
  go_wp2
  go_ret
  exact ⟨by rw [HF2.out]; rfl, hb1⟩

theorem cmpId_left {a b : List UInt8} (ha : numeric a = true) (hb : numeric b = false) : cmpId a b = -1 := by
 unfold cmpId; rw [if_pos ha, if_neg (by simp [hb])]
theorem cmpId_right {a b : List UInt8} (ha : numeric a = false) (hb : numeric b = true) : cmpId a b = 1 := by
 unfold cmpId; rw [if_neg (by simp [ha]), if_pos hb]
theorem cmpId_none {a b : List UInt8} (ha : numeric a = false) (hb : numeric b = false) : cmpId a b = Lib.compareBytes a b := by
 unfold cmpId; rw [if_neg (by simp [ha]), if_neg (by simp [hb])]

theorem idcmp_anyD (s t : ByteArray) (w : World) (hs : s.size ≤ maxLen) (ht : t.size ≤ maxLen) :
  Calls Tryz.prog 167 #[.string s, .string t] w fun e w' => e = .returned (.int .i64 (cmpId s.data.toList t.data.toList)) ∧ BelowD w.heap.size w w' := by
 have HS := Lib.hid hs; clear hs
 have HT := Lib.hid ht; clear ht
 cases ha : numeric s.data.toList
 ·cases hb : numeric t.data.toList
  ·have HF := Lib.hid (cmpId_none ha hb)
   have HA := Lib.hid ha; clear ha
   have HB := Lib.hid hb; clear hb
   go_enter Tryz.func167, Tryz.ntmps167
   go_wp2_with fail
   refine (numeric_any s _ HS.out).mono ?_
   rintro e w' ⟨rfl, rfl⟩
   rw [HA.out]
   go_wp2_with fail
   refine (numeric_any t _ HT.out).mono ?_
   rintro e w' ⟨rfl, rfl⟩
   rw [HB.out]
   go_wp2_with fail
   refine (strcmp_any _ _ _).mono ?_
   rintro e w' ⟨rfl, rfl⟩
   go_wp2
   go_ret
   exact ⟨by rw [HF.out]; rfl, BelowD.refl _ _⟩
  ·have HF := Lib.hid (cmpId_right ha hb)
   have HA := Lib.hid ha; clear ha
   have HB := Lib.hid hb; clear hb
   go_enter Tryz.func167, Tryz.ntmps167
   go_wp2_with fail
   refine (numeric_any s _ HS.out).mono ?_
   rintro e w' ⟨rfl, rfl⟩
   rw [HA.out]
   go_wp2_with fail
   refine (numeric_any t _ HT.out).mono ?_
   rintro e w' ⟨rfl, rfl⟩
   rw [HB.out]
   go_wp2
   go_ret
   exact ⟨by rw [HF.out]; rfl, BelowD.refl _ _⟩
 ·cases hb : numeric t.data.toList
  ·have HF := Lib.hid (cmpId_left ha hb)
   have HA := Lib.hid ha; clear ha
   have HB := Lib.hid hb; clear hb
   go_enter Tryz.func167, Tryz.ntmps167
   go_wp2_with fail
   refine (numeric_any s _ HS.out).mono ?_
   rintro e w' ⟨rfl, rfl⟩
   rw [HA.out]
   go_wp2_with fail
   refine (numeric_any t _ HT.out).mono ?_
   rintro e w' ⟨rfl, rfl⟩
   rw [HB.out]
   go_wp2
   go_ret
   exact ⟨by rw [HF.out]; rfl, BelowD.refl _ _⟩
  ·have HC := Lib.hid (fun W => numbers_anyD s t W HS.out HT.out ha hb)
   have HA := Lib.hid ha; clear ha
   have HB := Lib.hid hb; clear hb
   go_enter Tryz.func167, Tryz.ntmps167
   go_wp2_with fail
   refine (numeric_any s _ HS.out).mono ?_
   rintro e w' ⟨rfl, rfl⟩
   rw [HA.out]
   go_wp2_with fail
   refine (numeric_any t _ HT.out).mono ?_
   rintro e w' ⟨rfl, rfl⟩
   rw [HB.out]
   go_wp2_with fail
   refine (HC.out _).mono ?_
   rintro e w1 ⟨rfl, hb1⟩
   go_wp2
   go_ret
   exact ⟨rfl, hb1⟩
end Go.Proofs.YtgfbflnhjpbceaaGreatDoor.Ident
