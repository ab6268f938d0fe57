/-
  Cuts of versions and sets of spans: how cuts stand, which are right, what a set covers, when it is normal; of each set there is just one normal one. Plain facts.
-/
import Derived.Test.YtdbdeadcffpbfaaGreatDoorPrMath
namespace Go.Proofs.YtdbdeadcffpbfaaGreatDoor.Span
open Go.RowKit Num Ident Semver Prec

/-- A cut: its kind and its version. -/
structure Cut where
  kind : Int
  v : Ver
deriving DecidableEq
/-- A span: two cuts. -/
structure Sp where
  lo : Cut
  hi : Cut
deriving DecidableEq
def low : Cut := ⟨0, noVer⟩
def high : Cut := ⟨3, noVer⟩
instance : Inhabited Cut := ⟨low⟩
instance : Inhabited Sp := ⟨⟨low, low⟩⟩
/-- Is a cut one of a version? -/
def ofVer (c : Cut) : Bool := decide (c.kind = 1 ∨ c.kind = 2)
theorem ofVer_iff (c : Cut) : ofVer c = true ↔ c.kind = 1 ∨ c.kind = 2 := by simp [ofVer]
theorem ofVer_no (c : Cut) : ofVer c = false ↔ ¬ (c.kind = 1 ∨ c.kind = 2) := by rw [← ofVer_iff]; cases ofVer c <;> simp
/-- Is a cut right? -/
def right (c : Cut) : Bool := if c.kind = 0 ∨ c.kind = 3 then sameV c.v noVer else if c.kind = 1 ∨ c.kind = 2 then goodV c.v && decide (c.v.build.length = 0) else false
theorem right_ends {c : Cut} (h : c.kind = 0 ∨ c.kind = 3) : right c = sameV c.v noVer := by unfold right; rw [if_pos h]
theorem right_ver {c : Cut} (h : c.kind = 1 ∨ c.kind = 2) : right c = (goodV c.v && decide (c.v.build.length = 0)) := by unfold right; rw [if_neg (by omega), if_pos h]
theorem right_none {c : Cut} (h1 : ¬ (c.kind = 0 ∨ c.kind = 3)) (h2 : ¬ (c.kind = 1 ∨ c.kind = 2)) : right c = false := by unfold right; rw [if_neg h1, if_neg h2]
/-- -1, 0, 1. -/
def ordI (x y : Int) : Int := if x < y then -1 else if y < x then 1 else 0
theorem ordI_lt {x y : Int} (h : x < y) : ordI x y = -1 := by unfold ordI; rw [if_pos h]
theorem ordI_gt {x y : Int} (h : y < x) : ordI x y = 1 := by unfold ordI; rw [if_neg (by omega), if_pos h]
theorem ordI_eq {x y : Int} (h : x = y) : ordI x y = 0 := by unfold ordI; rw [if_neg (by omega), if_neg (by omega)]
theorem ordI_cases (x y : Int) : (x < y ∧ ordI x y = -1) ∨ (x = y ∧ ordI x y = 0) ∨ (y < x ∧ ordI x y = 1) := by
  rcases Int.lt_trichotomy x y with h | h | h
  · exact .inl ⟨h, ordI_lt h⟩
  · exact .inr (.inl ⟨h, ordI_eq h⟩)
  · exact .inr (.inr ⟨h, ordI_gt h⟩)
theorem ordI_ordr : Ordr ordI := by
  refine ⟨fun x y => ?_, fun x y z h1 h2 => ?_⟩
  · rcases ordI_cases x y with ⟨a, b⟩ | ⟨a, b⟩ | ⟨a, b⟩ <;> rcases ordI_cases y x with ⟨c, d⟩ | ⟨c, d⟩ | ⟨c, d⟩ <;> omega
  · rcases ordI_cases x y with ⟨a, b⟩ | ⟨a, b⟩ | ⟨a, b⟩ <;> rcases ordI_cases y z with ⟨c, d⟩ | ⟨c, d⟩ | ⟨c, d⟩ <;> rcases ordI_cases x z with ⟨e, f⟩ | ⟨e, f⟩ | ⟨e, f⟩ <;> omega
/-- How cuts stand. -/
def stand (a b : Cut) : Int := if ofVer a = true ∧ ofVer b = true ∧ cmpV a.v b.v ≠ 0 then cmpV a.v b.v else ordI a.kind b.kind
/-- How cuts compare: by kind alone, if one of both isn't right. -/
def cmpC (a b : Cut) : Int := if right a = true ∧ right b = true then stand a b else ordI a.kind b.kind
theorem cmpC_right {a b : Cut} (h1 : right a = true) (h2 : right b = true) : cmpC a b = stand a b := by unfold cmpC; rw [if_pos ⟨h1, h2⟩]
def kc (c : Cut) : Int := if ofVer c = true then 1 else c.kind
def vk (c : Cut) : Ver := if ofVer c = true then c.v else noVer
theorem stand_lex (a b : Cut) : stand a b = lex (fun x y => ordI (kc x) (kc y)) (lex (fun x y => cmpV (vk x) (vk y)) fun x y => ordI x.kind y.kind) a b := by
  unfold stand
  by_cases h1 : ofVer a = true
  · by_cases h2 : ofVer b = true
    · have e1 : ordI (kc a) (kc b) = 0 := ordI_eq (by unfold kc; rw [if_pos h1, if_pos h2])
      have e2 : cmpV (vk a) (vk b) = cmpV a.v b.v := by unfold vk; rw [if_pos h1, if_pos h2]
      refine Eq.trans ?_ (lex_yes (f := fun x y => ordI (kc x) (kc y)) e1).symm
      by_cases h3 : cmpV a.v b.v = 0
      · rw [if_neg (fun h => h.2.2 h3)]
        exact (lex_yes (f := fun x y => cmpV (vk x) (vk y)) (g := fun x y : Cut => ordI x.kind y.kind) (by show cmpV (vk a) (vk b) = 0; rw [e2]; exact h3)).symm
      · rw [if_pos ⟨h1, h2, h3⟩, ← e2]
        exact (lex_no (f := fun x y => cmpV (vk x) (vk y)) (g := fun x y : Cut => ordI x.kind y.kind) (by show cmpV (vk a) (vk b) ≠ 0; rw [e2]; exact h3)).symm
    · rw [if_neg (fun h => h2 h.2.1)]
      have ha := (ofVer_iff a).1 h1
      have hb := (ofVer_no b).1 (by simpa using h2)
      have e1 : kc a = 1 := by unfold kc; rw [if_pos h1]
      have e2 : kc b = b.kind := by unfold kc; rw [if_neg h2]
      have e3 : ordI (kc a) (kc b) = ordI a.kind b.kind := by
        rw [e1, e2]
        rcases ordI_cases 1 b.kind with ⟨c, d⟩ | ⟨c, d⟩ | ⟨c, d⟩ <;> rcases ordI_cases a.kind b.kind with ⟨e, f⟩ | ⟨e, f⟩ | ⟨e, f⟩ <;> omega
      refine Eq.trans e3.symm (lex_no (f := fun x y => ordI (kc x) (kc y)) ?_).symm
      show ordI (kc a) (kc b) ≠ 0
      rw [e3]; rcases ordI_cases a.kind b.kind with ⟨e, f⟩ | ⟨e, f⟩ | ⟨e, f⟩ <;> omega
  · rw [if_neg (fun h => h1 h.1)]
    have ha := (ofVer_no a).1 (by simpa using h1)
    have e1 : kc a = a.kind := by unfold kc; rw [if_neg h1]
    have e0 : vk a = noVer := by unfold vk; rw [if_neg h1]
    by_cases h2 : ofVer b = true
    · have hb := (ofVer_iff b).1 h2
      have e2 : kc b = 1 := by unfold kc; rw [if_pos h2]
      have e3 : ordI (kc a) (kc b) = ordI a.kind b.kind := by
        rw [e1, e2]
        rcases ordI_cases a.kind 1 with ⟨c, d⟩ | ⟨c, d⟩ | ⟨c, d⟩ <;> rcases ordI_cases a.kind b.kind with ⟨e, f⟩ | ⟨e, f⟩ | ⟨e, f⟩ <;> omega
      refine Eq.trans e3.symm (lex_no (f := fun x y => ordI (kc x) (kc y)) ?_).symm
      show ordI (kc a) (kc b) ≠ 0
      rw [e3]; rcases ordI_cases a.kind b.kind with ⟨e, f⟩ | ⟨e, f⟩ | ⟨e, f⟩ <;> omega
    · have e2 : kc b = b.kind := by unfold kc; rw [if_neg h2]
      have e4 : vk b = noVer := by unfold vk; rw [if_neg h2]
      by_cases h3 : ordI (kc a) (kc b) = 0
      · refine Eq.trans ?_ (lex_yes (f := fun x y => ordI (kc x) (kc y)) h3).symm
        exact (lex_yes (f := fun x y => cmpV (vk x) (vk y)) (g := fun x y : Cut => ordI x.kind y.kind) (by show cmpV (vk a) (vk b) = 0; rw [e0, e4]; exact cmpV_ordr.self noVer)).symm
      · refine Eq.trans ?_ (lex_no (f := fun x y => ordI (kc x) (kc y)) h3).symm
        show ordI a.kind b.kind = ordI (kc a) (kc b)
        rw [e1, e2]
theorem stand_ordr : Ordr stand := by
  have h : stand = lex (fun x y => ordI (kc x) (kc y)) (lex (fun x y => cmpV (vk x) (vk y)) fun x y => ordI x.kind y.kind) := by
    funext a b; exact stand_lex a b
  rw [h]
  exact (ordI_ordr.on kc).lex ((cmpV_ordr.on vk).lex (ordI_ordr.on Cut.kind))
theorem stand_flip (a b : Cut) : stand b a = 0 - stand a b := stand_ordr.flip a b
theorem stand_self (a : Cut) : stand a a = 0 := stand_ordr.self a
theorem le_le {a b c : Cut} (h1 : stand a b ≤ 0) (h2 : stand b c ≤ 0) : stand a c ≤ 0 := stand_ordr.trans a b c h1 h2
theorem le_lt {a b c : Cut} (h1 : stand a b ≤ 0) (h2 : stand b c < 0) : stand a c < 0 := by
  have h3 := le_le h1 (show stand b c ≤ 0 by omega)
  rcases Int.lt_or_eq_of_le h3 with h | h
  · exact h
  · have h4 := stand_flip a c
    have h5 := le_le (show stand c a ≤ 0 by omega) h1
    have h6 := stand_flip b c
    omega
theorem lt_le {a b c : Cut} (h1 : stand a b < 0) (h2 : stand b c ≤ 0) : stand a c < 0 := by
  have h3 := le_le (show stand a b ≤ 0 by omega) h2
  rcases Int.lt_or_eq_of_le h3 with h | h
  · exact h
  · have h4 := stand_flip a c
    have h5 := le_le h2 (show stand c a ≤ 0 by omega)
    have h6 := stand_flip a b
    omega
theorem lt_lt {a b c : Cut} (h1 : stand a b < 0) (h2 : stand b c < 0) : stand a c < 0 := le_lt (by omega) h2
theorem not_lt {a b : Cut} (h : ¬ stand a b < 0) : stand b a ≤ 0 := by have := stand_flip a b; omega
theorem not_le {a b : Cut} (h : ¬ stand a b ≤ 0) : stand b a < 0 := by have := stand_flip a b; omega
theorem lt_not {a b : Cut} (h : stand a b < 0) : ¬ stand b a ≤ 0 := by have := stand_flip a b; omega
theorem le_not {a b : Cut} (h : stand a b ≤ 0) : ¬ stand b a < 0 := by have := stand_flip a b; omega
theorem like_flip {a b : Cut} (h : stand a b = 0) : stand b a = 0 := by have := stand_flip a b; omega

/-- Does a span have what stands just behind a cut? -/
def inOne (s : Sp) (c : Cut) : Prop := stand s.lo c ≤ 0 ∧ stand c s.hi < 0
/-- Does a set have it? -/
def inS (l : List Sp) (c : Cut) : Prop := ∃ s ∈ l, inOne s c
/-- Does a span count? -/
def cnt (s : Sp) : Bool := right s.lo && (right s.hi && decide (stand s.lo s.hi < 0))
theorem cnt_iff (s : Sp) : cnt s = true ↔ right s.lo = true ∧ right s.hi = true ∧ stand s.lo s.hi < 0 := by simp [cnt]
/-- What a set whose spans may be wrong has. -/
def inR (l : List Sp) (c : Cut) : Prop := ∃ s ∈ l, cnt s = true ∧ inOne s c
/-- A set is normal. -/
structure Norm (l : List Sp) : Prop where
  cnt : ∀ s ∈ l, cnt s = true
  gap : l.Pairwise fun s t => stand s.hi t.lo < 0
theorem Norm.nil : Norm [] := ⟨(fun s h => by cases h), List.Pairwise.nil⟩
theorem Norm.tail {s : Sp} {l : List Sp} (h : Norm (s :: l)) : Norm l := ⟨fun t ht => h.cnt t (List.mem_cons_of_mem _ ht), (List.pairwise_cons.1 h.gap).2⟩
theorem Norm.ahead {s : Sp} {l : List Sp} (h : Norm (s :: l)) : ∀ t ∈ l, stand s.hi t.lo < 0 := (List.pairwise_cons.1 h.gap).1
theorem Norm.head {s : Sp} {l : List Sp} (h : Norm (s :: l)) : right s.lo = true ∧ right s.hi = true ∧ stand s.lo s.hi < 0 := (cnt_iff s).1 (h.cnt s (List.mem_cons_self ..))
theorem Norm.inR {l : List Sp} (h : Norm l) (c : Cut) : inR l c ↔ inS l c := ⟨fun ⟨s, hs, _, hi⟩ => ⟨s, hs, hi⟩, fun ⟨s, hs, hi⟩ => ⟨s, hs, h.cnt s hs, hi⟩⟩
/-- Two sets have like cuts, one by one. -/
inductive Like : List Sp → List Sp → Prop
  | nil : Like [] []
  | cons {s t : Sp} {l m : List Sp} : stand s.lo t.lo = 0 → stand s.hi t.hi = 0 → Like l m → Like (s :: l) (t :: m)
theorem Like.length {l m : List Sp} (h : Like l m) : l.length = m.length := by
  induction h with
  | nil => rfl
  | cons _ _ _ ih => simp [ih]
theorem Like.at {l m : List Sp} (h : Like l m) : ∀ i, i < l.length → stand (l.getD i default).lo (m.getD i default).lo = 0 ∧ stand (l.getD i default).hi (m.getD i default).hi = 0 := by
  induction h with
  | nil => intro i hi; simp at hi
  | cons h1 h2 _ ih =>
    intro i hi
    cases i with
    | zero => exact ⟨h1, h2⟩
    | succ i => exact ih i (by simpa using hi)
theorem first_le {s : Sp} {l : List Sp} (h : Norm (s :: l)) {t : Sp} (ht : t ∈ s :: l) : stand s.lo t.lo ≤ 0 := by
  rcases List.mem_cons.1 ht with rfl | ht
  · rw [stand_self]; exact Int.le_refl 0
  · have h1 := h.ahead t ht
    have h2 := h.head.2.2
    have := lt_lt h2 h1
    omega
/-- Of each set there is just one normal one. -/
theorem unique : ∀ {l m : List Sp}, Norm l → Norm m → (∀ c, inS l c ↔ inS m c) → Like l m
  | [], [], _, _, _ => Like.nil
  | [], t :: m, _, hm, h => by
    obtain ⟨s, hs, _⟩ := (h t.lo).2 ⟨t, List.mem_cons_self .., by rw [stand_self]; exact Int.le_refl 0, hm.head.2.2⟩
    cases hs
  | s :: l, [], hl, _, h => by
    obtain ⟨t, ht, _⟩ := (h s.lo).1 ⟨s, List.mem_cons_self .., by rw [stand_self]; exact Int.le_refl 0, hl.head.2.2⟩
    cases ht
  | s :: l, t :: m, hl, hm, h => by
    have hs := hl.head.2.2
    have ht := hm.head.2.2
    obtain ⟨t', ht', i1⟩ := (h s.lo).1 ⟨s, List.mem_cons_self .., by rw [stand_self]; exact Int.le_refl 0, hs⟩
    obtain ⟨s', hs', i2⟩ := (h t.lo).2 ⟨t, List.mem_cons_self .., by rw [stand_self]; exact Int.le_refl 0, ht⟩
    have e1 := le_le (first_le hm ht') i1.1
    have e2 := le_le (first_le hl hs') i2.1
    have el : stand s.lo t.lo = 0 := by have := stand_flip s.lo t.lo; omega
    have eh : stand s.hi t.hi = 0 := by
      rcases Int.lt_trichotomy (stand s.hi t.hi) 0 with g | g | g
      · exfalso
        obtain ⟨x, hx, i3⟩ := (h s.hi).2 ⟨t, List.mem_cons_self .., le_le e1 (by omega), g⟩
        rcases List.mem_cons.1 hx with rfl | hx
        · have := i3.2; rw [stand_self] at this; omega
        · exact lt_not (hl.ahead x hx) i3.1
      · exact g
      · exfalso
        have g2 : stand t.hi s.hi < 0 := by have := stand_flip s.hi t.hi; omega
        obtain ⟨x, hx, i3⟩ := (h t.hi).1 ⟨s, List.mem_cons_self .., le_le e2 (by omega), g2⟩
        rcases List.mem_cons.1 hx with rfl | hx
        · have := i3.2; rw [stand_self] at this; omega
        · exact lt_not (hm.ahead x hx) i3.1
    refine Like.cons el eh (unique hl.tail hm.tail fun c => ⟨fun ⟨x, hx, i⟩ => ?_, fun ⟨x, hx, i⟩ => ?_⟩)
    · obtain ⟨y, hy, j⟩ := (h c).1 ⟨x, List.mem_cons_of_mem _ hx, i⟩
      rcases List.mem_cons.1 hy with rfl | hy
      · exfalso
        have h1 := lt_le (hl.ahead x hx) i.1
        have h2 := lt_lt h1 j.2
        have := stand_flip s.hi y.hi
        omega
      · exact ⟨y, hy, j⟩
    · obtain ⟨y, hy, j⟩ := (h c).2 ⟨x, List.mem_cons_of_mem _ hx, i⟩
      rcases List.mem_cons.1 hy with rfl | hy
      · exfalso
        have h1 := lt_le (hm.ahead x hx) i.1
        have h2 := lt_lt h1 j.2
        have := stand_flip y.hi t.hi
        omega
      · exact ⟨y, hy, j⟩

theorem sameV_none {v : Ver} (h : sameV v noVer = true) : v = noVer := by
  unfold sameV at h
  rw [Bool.and_eq_true, decide_eq_true_eq, Bool.and_eq_true, sameB_iff, sameB_iff] at h
  obtain ⟨⟨h1, h2, h3⟩, h4, h5⟩ := h
  cases v; simp only [noVer] at *; subst h1; subst h2; subst h3; subst h4; subst h5; rfl
theorem good_len (pre : Bool) : ∀ (xs : List (List UInt8)) (i : Nat), i ≤ 16 → goodFrom pre xs i = true → i + xs.length ≤ 16
  | [], i, hi, _ => by simpa using hi
  | x :: r, i, hi, h => by
    rw [goodFrom] at h
    simp only [Bool.and_eq_true, beq_iff_eq] at h
    have h1 := (fault_pos h.1.1).2.2
    have := good_len pre r (i + 1) (by omega) h.2
    simp; omega
/-- What a right cut's version is: few identifiers, no build. -/
theorem right_few {c : Cut} (h : right c = true) : c.v.pre.length ≤ 16 ∧ c.v.build = [] := by
  by_cases h1 : c.kind = 0 ∨ c.kind = 3
  · rw [right_ends h1] at h
    rw [sameV_none h]; exact ⟨by simp [noVer], rfl⟩
  · by_cases h2 : c.kind = 1 ∨ c.kind = 2
    · rw [right_ver h2, Bool.and_eq_true, decide_eq_true_eq] at h
      refine ⟨?_, List.eq_nil_of_length_eq_zero h.2⟩
      have hg := h.1
      unfold goodV at hg
      rw [Bool.and_eq_true, Bool.and_eq_true] at hg
      have := good_len true c.v.pre 0 (by omega) hg.2.1
      omega
    · rw [right_none h1 h2] at h; cases h
theorem right_bare {c : Cut} (h : right c = true) : bare c.v = c.v := by
  have := (right_few h).2
  unfold bare; rw [← this]
theorem low_right : right low = true := by rw [right_ends (.inl rfl)]; exact sameV_self noVer
theorem high_right : right high = true := by rw [right_ends (.inr rfl)]; exact sameV_self noVer
theorem low_high : stand low high < 0 := by
  unfold stand; rw [if_neg (by rintro ⟨h, _⟩; exact absurd h (by decide))]; exact (show (-1 : Int) < 0 by omega)
theorem right_kind {c : Cut} (h : right c = true) : c.kind = 0 ∨ c.kind = 1 ∨ c.kind = 2 ∨ c.kind = 3 := by
  by_cases h1 : c.kind = 0 ∨ c.kind = 3
  · omega
  · by_cases h2 : c.kind = 1 ∨ c.kind = 2
    · omega
    · rw [right_none h1 h2] at h; cases h
theorem stand_kind {a b : Cut} (h : ¬ (ofVer a = true ∧ ofVer b = true)) : stand a b = ordI a.kind b.kind := by
  unfold stand; rw [if_neg (fun k => h ⟨k.1, k.2.1⟩)]
theorem low_le {c : Cut} (h : right c = true) : stand low c ≤ 0 := by
  rw [stand_kind (by rintro ⟨h, _⟩; exact absurd h (by decide))]
  have := right_kind h
  have e : low.kind = 0 := rfl
  rcases ordI_cases low.kind c.kind with ⟨a, b⟩ | ⟨a, b⟩ | ⟨a, b⟩ <;> omega
theorem le_high {c : Cut} (h : right c = true) : stand c high ≤ 0 := by
  rw [stand_kind (by rintro ⟨_, h⟩; exact absurd h (by decide))]
  have := right_kind h
  have e : high.kind = 3 := rfl
  rcases ordI_cases c.kind high.kind with ⟨a, b⟩ | ⟨a, b⟩ | ⟨a, b⟩ <;> omega

/-- A version's two cuts. -/
def aheadOf (v : Ver) : Cut := ⟨1, bare v⟩
def behindOf (v : Ver) : Cut := ⟨2, bare v⟩
theorem ahead_behind (v : Ver) : stand (aheadOf v) (behindOf v) < 0 := by
  have h : cmpV (bare v) (bare v) = 0 := cmpV_ordr.self _
  unfold stand
  rw [if_neg (fun k => k.2.2 h)]; exact (show (-1 : Int) < 0 by omega)
/-- Between a version's two cuts stands none. -/
theorem behind_le (c : Cut) (v : Ver) : stand (aheadOf v) c < 0 ↔ stand (behindOf v) c ≤ 0 := by
  constructor
  · intro hc
    by_cases hv : ofVer c = true
    · have hk := (ofVer_iff c).1 hv
      by_cases h0 : cmpV (bare v) c.v = 0
      · have e1 : stand (aheadOf v) c = ordI 1 c.kind := by unfold stand; rw [if_neg (fun k => k.2.2 h0)]; rfl
        have e2 : stand (behindOf v) c = ordI 2 c.kind := by unfold stand; rw [if_neg (fun k => k.2.2 h0)]; rfl
        rw [e1] at hc
        rw [e2]
        rcases ordI_cases 1 c.kind with ⟨a, b⟩ | ⟨a, b⟩ | ⟨a, b⟩ <;> rcases ordI_cases 2 c.kind with ⟨e, f⟩ | ⟨e, f⟩ | ⟨e, f⟩ <;> omega
      · have e1 : stand (aheadOf v) c = cmpV (bare v) c.v := by unfold stand; rw [if_pos ⟨rfl, hv, h0⟩]; rfl
        have e2 : stand (behindOf v) c = cmpV (bare v) c.v := by unfold stand; rw [if_pos ⟨rfl, hv, h0⟩]; rfl
        omega
    · have hk := (ofVer_no c).1 (by simpa using hv)
      rw [stand_kind (fun k => hv k.2)] at hc ⊢
      have e1 : (aheadOf v).kind = 1 := rfl
      have e2 : (behindOf v).kind = 2 := rfl
      rcases ordI_cases (aheadOf v).kind c.kind with ⟨a, b⟩ | ⟨a, b⟩ | ⟨a, b⟩ <;> rcases ordI_cases (behindOf v).kind c.kind with ⟨e, f⟩ | ⟨e, f⟩ | ⟨e, f⟩ <;> omega
  · intro hc
    exact lt_le (ahead_behind v) hc

/-- Is a set normal, place by place? -/
def goodS (l : List Sp) : Bool := (List.range l.length).all fun i => cnt (l.getD i default) && (decide (i = 0) || decide (stand (l.getD (i - 1) default).hi (l.getD i default).lo < 0))
theorem goodS_iff (l : List Sp) : goodS l = true ↔ ∀ i, i < l.length → cnt (l.getD i default) = true ∧ (i = 0 ∨ stand (l.getD (i - 1) default).hi (l.getD i default).lo < 0) := by
  simp [goodS, List.all_eq_true]
theorem goodS_no {l : List Sp} {i : Nat} (hi : i < l.length) (h : ¬ (cnt (l.getD i default) = true ∧ (i = 0 ∨ stand (l.getD (i - 1) default).hi (l.getD i default).lo < 0))) : goodS l = false := by
  rw [← Bool.not_eq_true, goodS_iff]; exact fun k => h (k i hi)
theorem goodS_cons {s : Sp} {l : List Sp} : goodS (s :: l) = true ↔ cnt s = true ∧ (l = [] ∨ stand s.hi (l.getD 0 default).lo < 0) ∧ goodS l = true := by
  rw [goodS_iff, goodS_iff]
  constructor
  · intro h
    have h0 := h 0 (by simp)
    refine ⟨h0.1, ?_, fun i hi => ?_⟩
    · cases l with
      | nil => exact .inl rfl
      | cons t l =>
        have h1 := h 1 (by simp)
        rcases h1.2 with h2 | h2
        · omega
        · exact .inr h2
    · have h1 := h (i + 1) (by simp; omega)
      refine ⟨h1.1, ?_⟩
      rcases Nat.eq_zero_or_pos i with h2 | h2
      · exact .inl h2
      · right
        rcases h1.2 with h3 | h3
        · omega
        · obtain ⟨j, rfl⟩ : ∃ j, i = j + 1 := ⟨i - 1, by omega⟩
          exact h3
  · rintro ⟨h1, h2, h3⟩ i hi
    rcases Nat.eq_zero_or_pos i with h4 | h4
    · subst h4; exact ⟨h1, .inl rfl⟩
    · obtain ⟨j, rfl⟩ : ∃ j, i = j + 1 := ⟨i - 1, by omega⟩
      have h5 := h3 j (by simp at hi; omega)
      refine ⟨h5.1, .inr ?_⟩
      rcases Nat.eq_zero_or_pos j with h6 | h6
      · subst h6
        rcases h2 with h7 | h7
        · subst h7; simp at hi
        · exact h7
      · obtain ⟨k, rfl⟩ : ∃ k, j = k + 1 := ⟨j - 1, by omega⟩
        rcases h5.2 with h7 | h7
        · omega
        · exact h7
theorem goodS_norm : ∀ l : List Sp, goodS l = true ↔ Norm l
  | [] => ⟨fun _ => Norm.nil, fun _ => rfl⟩
  | s :: l => by
    rw [goodS_cons, goodS_norm l]
    constructor
    · rintro ⟨h1, h2, h3⟩
      refine ⟨fun t ht => ?_, List.pairwise_cons.2 ⟨fun t ht => ?_, h3.gap⟩⟩
      · rcases List.mem_cons.1 ht with rfl | ht
        · exact h1
        · exact h3.cnt t ht
      · cases l with
        | nil => cases ht
        | cons x l =>
          rcases h2 with h2 | h2
          · cases h2
          · exact lt_le h2 (first_le h3 ht)
    · intro h
      refine ⟨h.cnt s (List.mem_cons_self ..), ?_, h.tail⟩
      cases l with
      | nil => exact .inl rfl
      | cons x l => exact .inr (h.ahead x (List.mem_cons_self ..))
end Go.Proofs.YtdbdeadcffpbfaaGreatDoor.Span
