/-
  What the theorem of the last text needs of these: NmMath. Conditions: as each theorem states.
-/
import Derived.Test.YtgfbflnhjpbceaaGreatDoorAgaB1
import Derived.Test.YtgfbflnhjpbceaaGreatDoorAgaB9
import Derived.Test.YtgfbflnhjpbceaaGreatDoorAgaB11
import Derived.Test.YtgfbflnhjpbceaaGreatDoorAgaB20
set_option maxRecDepth 100000
set_option maxHeartbeats 25600000
namespace Go.Proofs.YtgfbflnhjpbceaaGreatDoor.Nrm
open Go.RowKit Num Ident Semver Prec Span
open Range (Rng noRng goodR goodL fits)

theorem bytes_eq : ∀ {a b : List UInt8}, Lib.compareBytes a b = 0 → a = b
 | [], [], _ => rfl
 | [], y :: b, h => by simp [Lib.compareBytes] at h
 | x :: a, [], h => by simp [Lib.compareBytes] at h
 | x :: a, y :: b, h => by
  unfold Lib.compareBytes at h
  simp only [UInt8.lt_iff_toNat_lt] at h
  by_cases h1 : x.toNat < y.toNat
  ·rw [if_pos h1] at h; omega
  ·by_cases h2 : y.toNat < x.toNat
   ·rw [if_neg h1, if_pos h2] at h; omega
   ·rw [if_neg h1, if_neg h2] at h
    have e : x = y := UInt8.toNat_inj.1 (by omega)
    rw [e, bytes_eq h]
theorem two_digits {m p q r s : Nat} (hr : r < m) (hs : s < m) (h : p * m + r = q * m + s) : p = q ∧ r = s := by
 have e1 : (p * m + r) / m = p := by rw [Nat.mul_comm, Nat.mul_add_div (by omega), Nat.div_eq_of_lt hr]; rfl
 have e2 : (q * m + s) / m = q := by rw [Nat.mul_comm, Nat.mul_add_div (by omega), Nat.div_eq_of_lt hs]; rfl
 have e3 : p = q := by rw [← e1, h, e2]
 subst e3
 exact ⟨rfl, by omega⟩
theorem dig_eq : ∀ {a b : List UInt8}, AllDig a → AllDig b → a.length = b.length → val a = val b → a = b
 | [], [], _, _, _, _ => rfl
 | [], y :: b, _, _, h, _ => by simp at h
 | x :: a, [], _, _, h, _ => by simp at h
 | x :: a, y :: b, ha, hb, hl, hv => by
  have ha' := allDig_cons.1 ha
  have hb' := allDig_cons.1 hb
  have hl' : a.length = b.length := by simpa using hl
  rw [val_cons, val_cons, hl'] at hv
  have h1 := val_lt ha'.2
  rw [hl'] at h1
  obtain ⟨e1, e2⟩ := two_digits h1 (val_lt hb'.2) hv
  have hx := (isDig_iff x).1 ha'.1
  have hy := (isDig_iff y).1 hb'.1
  have e : x = y := UInt8.toNat_inj.1 (by omega)
  rw [e, dig_eq ha'.2 hb'.2 hl' e2]
theorem id_eq {a b : List UInt8} (h : cmpId a b = 0) : a = b := by
 unfold cmpId at h
 by_cases ha : numeric a = true
 ·rw [if_pos ha] at h
  by_cases hb : numeric b = true
  ·rw [if_pos hb] at h
   by_cases hv : ordN (val a) (val b) = 0
   ·rw [if_pos hv] at h
    have da := all_of_run ((numeric_iff a).1 ha).2
    have db := all_of_run ((numeric_iff b).1 hb).2
    exact dig_eq da db ((ordN_zero_iff _ _).1 h) ((ordN_zero_iff _ _).1 hv)
   ·rw [if_neg hv] at h; exact absurd h hv
  ·rw [if_neg hb] at h; omega
 ·rw [if_neg ha] at h
  by_cases hb : numeric b = true
  ·rw [if_pos hb] at h; omega
  ·rw [if_neg hb] at h; exact bytes_eq h
theorem rows_eq : ∀ {r s : List (List UInt8)}, cmpRows r s = 0 → r = s
 | [], s, h => by
  rw [cmpRows_nil] at h
  have := (ordN_zero_iff _ _).1 h
  exact (List.eq_nil_of_length_eq_zero this.symm).symm
 | a :: r, [], h => by
  rw [cmpRows_nil'] at h
  have := (ordN_zero_iff _ _).1 h
  simp at this
 | a :: r, b :: s, h => by
  by_cases hi : cmpId a b = 0
  ·rw [cmpRows_same hi] at h
   rw [id_eq hi, rows_eq h]
  ·rw [cmpRows_diff hi] at h; exact absurd h hi
theorem pre_eq {x y : List (List UInt8)} (h : cmpPre x y = 0) : x = y := by
 unfold cmpPre lex at h
 by_cases h0 : ordN (noneN x) (noneN y) = 0
 ·rw [if_pos h0] at h; exact rows_eq h
 ·rw [if_neg h0] at h; exact absurd h h0
theorem core_eq {u v : Ver} (h : cmpCore u v = 0) : u.a = v.a ∧ u.b = v.b ∧ u.c = v.c := by
 by_cases h1 : u.a = v.a
 ·by_cases h2 : u.b = v.b
  ·rw [cmpCore_3 h1 h2] at h; exact ⟨h1, h2, (ordN_zero_iff _ _).1 h⟩
  ·rw [cmpCore_2 h1 h2] at h; exact absurd ((ordN_zero_iff _ _).1 h) h2
 ·rw [cmpCore_1 h1] at h; exact absurd ((ordN_zero_iff _ _).1 h) h1
theorem ver_eq {u v : Ver} (h : cmpV u v = 0) : u.a = v.a ∧ u.b = v.b ∧ u.c = v.c ∧ u.pre = v.pre := by
 unfold cmpV lex at h
 by_cases h0 : cmpCore u v = 0
 ·rw [if_pos h0] at h
  obtain ⟨a, b, c⟩ := core_eq h0
  exact ⟨a, b, c, pre_eq h⟩
 ·rw [if_neg h0] at h; exact absurd h h0
theorem ver_same {u v : Ver} (h : cmpV u v = 0) (hu : u.build = []) (hv : v.build = []) : u = v := by
 obtain ⟨a, b, c, d⟩ := ver_eq h
 cases u; cases v
 simp only at *
 subst a; subst b; subst c; subst d; subst hu; subst hv; rfl
theorem cut_eq {a b : Cut} (ha : Span.right a = true) (hb : Span.right b = true) (h : stand a b = 0) : a = b := by
 obtain ⟨hk, hv⟩ := stand_zero h
 have fa := (right_few ha).2
 have fb := (right_few hb).2
 have key : a.v = b.v := by
  by_cases h1 : a.kind = 0 ∨ a.kind = 3
  ·rw [right_ends h1] at ha
   rw [right_ends (hk ▸ h1)] at hb
   rw [sameV_none ha, sameV_none hb]
  ·have h2 := right_kind ha
   have h3 : ofVer a = true := (ofVer_iff a).2 (by omega)
   have h4 : ofVer b = true := (ofVer_iff b).2 (by omega)
   exact ver_same (hv h3 h4) fa fb
 cases a; cases b
 simp only at *
 subst hk; subst key; rfl
theorem like_eq : ∀ {l m : List Sp}, Like l m → Rights l → Rights m → l = m := by
 intro l m h
 induction h with
 | nil => intro _ _; rfl
 | @cons s t l m h1 h2 _ ih =>
  intro hl hm
  obtain ⟨a1, a2⟩ := hl s (List.mem_cons_self ..)
  obtain ⟨b1, b2⟩ := hm t (List.mem_cons_self ..)
  have e1 := cut_eq a1 b1 h1
  have e2 := cut_eq a2 b2 h2
  rw [ih (fun x hx => hl x (List.mem_cons_of_mem _ hx)) (fun x hx => hm x (List.mem_cons_of_mem _ hx))]
  cases s; cases t
  simp only at *
  subst e1; subst e2; rfl
theorem uniq {l m : List Sp} (hl : Norm l) (hm : Norm m) (h : ∀ c, inS l c ↔ inS m c) : l = m := like_eq (unique hl hm h) hl.rights hm.rights

def endCut (o : Option Ver) : Cut := match o with
 | none => high
 | some e => ⟨1, e⟩
def loOf (k : Int) (v : Ver) : Cut := if k = 1 ∨ k = 5 ∨ k = 7 ∨ k = 8 then aheadOf v else if k = 2 then behindOf v else low
def hiOf (k : Int) (v : Ver) : Cut := if k = 3 ∨ k = 5 then behindOf v else if k = 4 then aheadOf v else if k = 7 then endCut (caretV v) else if k = 8 then endCut (tildeV v) else high
def inK (k : Int) (v : Ver) (c : Cut) : Prop := if k = 6 then ¬ inOne ⟨aheadOf v, behindOf v⟩ c else inOne ⟨loOf k v, hiOf k v⟩ c
mutual
def inC : Rng → Cut → Prop
 | .mk k v l, c => inOne ⟨low, high⟩ c ∧ (if k = 9 then allC l c else if k = 10 then anyC l c else if k = 11 then ¬ headC l c else inK k v c)
def allC : List Rng → Cut → Prop
 | [], _ => True
 | r :: rs, c => inC r c ∧ allC rs c
def anyC : List Rng → Cut → Prop
 | [], _ => False
 | r :: rs, c => inC r c ∨ anyC rs c
def headC : List Rng → Cut → Prop
 | [], _ => False
 | r :: _, c => inC r c
end
theorem inC_eq (k : Int) (v : Ver) (l : List Rng) (c : Cut) : inC (.mk k v l) c = (inOne ⟨low, high⟩ c ∧ (if k = 9 then allC l c else if k = 10 then anyC l c else if k = 11 then ¬ headC l c else inK k v c)) := by rw [inC]
theorem allC_iff {c : Cut} : ∀ {l : List Rng}, allC l c ↔ ∀ x ∈ l, inC x c
 | [] => by rw [allC]; simp
 | r :: rs => by rw [allC, allC_iff]; simp
theorem anyC_iff {c : Cut} : ∀ {l : List Rng}, anyC l c ↔ ∃ x ∈ l, inC x c
 | [] => by rw [anyC]; simp
 | r :: rs => by rw [anyC, anyC_iff]; simp
theorem headC_one (r : Rng) (c : Cut) : headC [r] c ↔ inC r c := by rw [headC]
theorem inC_all {r : Rng} {c : Cut} (h : inC r c) : inOne ⟨low, high⟩ c := by
 obtain ⟨k, v, l⟩ := r
 rw [inC_eq] at h; exact h.1
theorem inC_and (v : Ver) (l : List Rng) (c : Cut) : inC (.mk 9 v l) c ↔ inOne ⟨low, high⟩ c ∧ ∀ x ∈ l, inC x c := by rw [inC_eq, if_pos rfl, allC_iff]
theorem inC_or (v : Ver) (l : List Rng) (c : Cut) : inC (.mk 10 v l) c ↔ ∃ x ∈ l, inC x c := by
 rw [inC_eq, if_neg (by omega), if_pos rfl, anyC_iff]
 exact ⟨fun h => h.2, fun ⟨x, hx, h⟩ => ⟨inC_all h, x, hx, h⟩⟩
theorem inC_not (v : Ver) (r : Rng) (c : Cut) : inC (.mk 11 v [r]) c ↔ inOne ⟨low, high⟩ c ∧ ¬ inC r c := by
 rw [inC_eq, if_neg (by omega), if_neg (by omega), if_pos rfl, headC_one]
theorem inC_ver {k : Int} (h1 : 0 ≤ k) (h2 : k ≤ 8) (v : Ver) (l : List Rng) (c : Cut) : inC (.mk k v l) c ↔ inOne ⟨low, high⟩ c ∧ inK k v c := by
 rw [inC_eq, if_neg (by omega), if_neg (by omega), if_neg (by omega)]
theorem good_bare {v : Ver} (h : goodV v = true) : goodV (bare v) = true := by
 unfold goodV bare at *
 rw [Bool.and_eq_true, Bool.and_eq_true] at h ⊢
 exact ⟨h.1, h.2.1, rfl⟩
theorem ahead_right {v : Ver} (h : goodV v = true) : Span.right (aheadOf v) = true := by
 rw [right_ver (.inl rfl), Bool.and_eq_true, decide_eq_true_eq]
 exact ⟨good_bare h, rfl⟩
theorem end_good {v e : Ver} {i : Nat} (hv : goodV v = true) (h : endV v.a v.b v.c i = some e) : goodV e = true ∧ e.build = [] := by
 unfold goodV at hv
 rw [Bool.and_eq_true] at hv
 have hh := of_decide_eq_true hv.1
 have key : ∀ x y z, x ≤ maxField → y ≤ maxField → z ≤ maxField → goodV (firstV x y z) = true ∧ (firstV x y z).build = [] := fun x y z h1 h2 h3 => by
  refine ⟨?_, rfl⟩
  unfold goodV
  rw [Bool.and_eq_true]
  exact ⟨decide_eq_true ⟨h1, h2, h3⟩, show (goodFrom true [[48]] 0 && goodFrom false [] 0) = true by decide⟩
 have hm : maxField = 9223372036854775807 := rfl
 unfold endV at h
 split at h
 ·split at h
  ·cases h
  ·injection h with h; subst h; exact key _ _ _ (by omega) (Nat.zero_le _) (Nat.zero_le _)
 ·split at h
  ·split at h
   ·cases h
   ·injection h with h; subst h; exact key _ _ _ hh.1 (by omega) (Nat.zero_le _)
  ·split at h
   ·cases h
   ·injection h with h; subst h; exact key _ _ _ hh.1 hh.2.1 (by omega)
theorem endCut_right {v : Ver} {i : Nat} (hv : goodV v = true) : Span.right (endCut (endV v.a v.b v.c i)) = true ∧ stand (aheadOf v) (endCut (endV v.a v.b v.c i)) < 0 := by
 cases h : endV v.a v.b v.c i with
 | none =>
  refine ⟨high_right, ?_⟩
  exact lt_le (ahead_behind v) (Int.le_of_lt (behind_high v))
 | some e =>
  obtain ⟨h1, h2⟩ := end_good hv h
  refine ⟨?_, ?_⟩
  ·show Span.right ⟨1, e⟩ = true
   rw [right_ver (.inl rfl), Bool.and_eq_true, decide_eq_true_eq]
   exact ⟨h1, by show e.build.length = 0; rw [h2]; rfl⟩
  ·have h3 := end_ahead h
   show stand (aheadOf v) ⟨1, e⟩ < 0
   have h4 : cmpV (bare v) e = -1 := h3
   unfold stand
   rw [if_pos ⟨rfl, rfl, by show cmpV (bare v) e ≠ 0; rw [h4]; decide⟩]
   show cmpV (bare v) e < 0
   rw [h4]; decide
theorem lohi {k : Int} {v : Ver} (hk : k = 0 ∨ goodV v = true) : Span.right (loOf k v) = true ∧ Span.right (hiOf k v) = true ∧ stand (loOf k v) (hiOf k v) < 0 := by
 rcases hk with rfl | hv
 ·exact ⟨low_right, high_right, low_high⟩
 ·have ha := ahead_right hv
  have hb := right_behind ha
  have e1 := ahead_behind v
  have e2 := behind_high v
  have e3 := low_ahead v
  unfold loOf hiOf
  by_cases h1 : k = 1
  ·subst h1; exact ⟨ha, high_right, lt_lt e1 e2⟩
  by_cases h2 : k = 2
  ·subst h2; exact ⟨hb, high_right, e2⟩
  by_cases h3 : k = 3
  ·subst h3; exact ⟨low_right, hb, lt_lt e3 e1⟩
  by_cases h4 : k = 4
  ·subst h4; exact ⟨low_right, ha, e3⟩
  by_cases h5 : k = 5
  ·subst h5; exact ⟨ha, hb, e1⟩
  by_cases h7 : k = 7
  ·subst h7; exact ⟨ha, (endCut_right hv).1, (endCut_right hv).2⟩
  by_cases h8 : k = 8
  ·subst h8; exact ⟨ha, (endCut_right hv).1, (endCut_right hv).2⟩
  rw [if_neg (by omega), if_neg (by omega), if_neg (by omega), if_neg (by omega), if_neg (by omega), if_neg (by omega)]
  exact ⟨low_right, high_right, low_high⟩
theorem within {s : Sp} {c : Cut} (h1 : Span.right s.lo = true) (h2 : Span.right s.hi = true) (h : inOne s c) : inOne ⟨low, high⟩ c := ⟨le_le (low_le h1) h.1, lt_le h.2 (le_high h2)⟩

def SetOf (r : Rng) (o : List Sp) : Prop := Norm o ∧ ∀ c, inS o c ↔ inC r c
def RestOf (r : Rng) (o : List Sp) : Prop := Norm o ∧ ∀ c, inS o c ↔ inOne ⟨low, high⟩ c ∧ ¬ inC r c
theorem SetOf.one {r : Rng} {o p : List Sp} (h : SetOf r o) (k : SetOf r p) : o = p := uniq h.1 k.1 fun c => (h.2 c).trans (k.2 c).symm
theorem inR_one {s : Sp} (h : Span.cnt s = true) (c : Cut) : inR [s] c ↔ inOne s c :=
 ⟨fun ⟨x, hx, _, hi⟩ => by rw [List.mem_singleton] at hx; subst hx; exact hi, fun hi => ⟨s, List.mem_singleton.2 rfl, h, hi⟩⟩
theorem set_span {k : Int} {v : Ver} (h0 : 0 ≤ k) (h8 : k ≤ 8) (h6 : k ≠ 6) (hk : k = 0 ∨ goodV v = true) (l : List Rng) {o : List Sp} (h : NormalOf [⟨loOf k v, hiOf k v⟩] o) : SetOf (.mk k v l) o := by
 obtain ⟨h1, h2, h3⟩ := lohi (k := k) hk
 refine ⟨h.1, fun c => ?_⟩
 rw [h.2, inR_one ((cnt_iff _).2 ⟨h1, h2, h3⟩), inC_ver h0 h8]
 unfold inK
 rw [if_neg h6]
 exact ⟨fun g => ⟨within h1 h2 g, g⟩, fun g => g.2⟩
theorem set_ne {v : Ver} (hv : goodV v = true) (l : List Rng) {n o : List Sp} (hn : NormalOf [⟨aheadOf v, behindOf v⟩] n) (h : NotOf n o) : SetOf (.mk 6 v l) o := by
 have ha := ahead_right hv
 refine ⟨h.1, fun c => ?_⟩
 rw [h.2, hn.1.inR, hn.2, inR_one ((cnt_iff _).2 ⟨ha, right_behind ha, ahead_behind v⟩), inC_ver (by omega) (by omega)]
 unfold inK
 rw [if_pos rfl]
theorem rest_of {r : Rng} {n o : List Sp} (hn : SetOf r n) (h : NotOf n o) : RestOf r o := ⟨h.1, fun c => by rw [h.2, hn.1.inR, hn.2]⟩
theorem set_not {v : Ver} {r : Rng} {o : List Sp} (h : RestOf r o) : SetOf (.mk 11 v [r]) o := ⟨h.1, fun c => by rw [h.2, inC_not]⟩
theorem set_or {v : Ver} {l : List Rng} {a o : List Sp} (ha : ∀ c, inR a c ↔ ∃ x ∈ l, inC x c) (h : NormalOf a o) : SetOf (.mk 10 v l) o := ⟨h.1, fun c => by rw [h.2, ha, inC_or]⟩
theorem set_and {v : Ver} {l : List Rng} {a o : List Sp} (ha : ∀ c, inR a c ↔ ∃ x ∈ l, inOne ⟨low, high⟩ c ∧ ¬ inC x c) (h : NotOf a o) : SetOf (.mk 9 v l) o := ⟨h.1, fun c => by
 rw [h.2, ha, inC_and]
 refine and_congr_right fun hc => ⟨fun k x hx => Classical.byContradiction fun hn => k ⟨x, hx, hc, hn⟩, ?_⟩
 rintro k ⟨x, hx, _, hn⟩
 exact hn (k x hx)⟩
theorem inR_append (a b : List Sp) (c : Cut) : inR (a ++ b) c ↔ inR a c ∨ inR b c := by
 constructor
 ·rintro ⟨s, hs, h⟩
  rcases List.mem_append.1 hs with hs | hs
  ·exact .inl ⟨s, hs, h⟩
  ·exact .inr ⟨s, hs, h⟩
 ·rintro (⟨s, hs, h⟩ | ⟨s, hs, h⟩)
  ·exact ⟨s, List.mem_append_left _ hs, h⟩
  ·exact ⟨s, List.mem_append_right _ hs, h⟩

/-! What a version's range has, version by version. -/
theorem ahead_cmp (u v : Ver) : stand (aheadOf u) (aheadOf v) = cmpV u v := by
 unfold stand
 by_cases h : cmpV u v = 0
 ·rw [if_neg (fun k => k.2.2 h), h]; rfl
 ·rw [if_pos ⟨rfl, rfl, h⟩]; rfl
theorem behind_cmp (u v : Ver) : stand (behindOf u) (aheadOf v) ≤ 0 ↔ cmpV u v < 0 := by
 unfold stand
 by_cases h : cmpV u v = 0
 ·rw [if_neg (fun k => k.2.2 h), h]; simp [behindOf, aheadOf, ordI]
 ·rw [if_pos ⟨rfl, rfl, h⟩]
  show cmpV u v ≤ 0 ↔ cmpV u v < 0
  omega
theorem cmp_behind (u v : Ver) : stand (aheadOf v) (behindOf u) < 0 ↔ cmpV v u ≤ 0 := by
 rw [show stand (aheadOf v) (behindOf u) = - stand (behindOf u) (aheadOf v) by have := stand_flip (behindOf u) (aheadOf v); omega]
 have h1 := behind_cmp u v
 have h2 := cmpV_ordr.flip u v
 omega
def hereV (o : Option Ver) (v : Ver) : Bool := match o with
 | none => true
 | some e => decide (cmpV v e < 0)
def kindV (k : Int) (u v : Ver) : Bool :=
 if k = 1 then decide (0 ≤ cmpV v u) else if k = 2 then decide (0 < cmpV v u) else if k = 3 then decide (cmpV v u ≤ 0) else if k = 4 then decide (cmpV v u < 0)
 else if k = 5 then decide (cmpV v u = 0) else if k = 6 then decide (cmpV v u ≠ 0) else if k = 7 then decide (0 ≤ cmpV v u) && hereV (caretV u) v else if k = 8 then decide (0 ≤ cmpV v u) && hereV (tildeV u) v else true
theorem here_iff (u v : Ver) (i : Nat) : stand (aheadOf v) (endCut (endV u.a u.b u.c i)) < 0 ↔ hereV (endV u.a u.b u.c i) v = true := by
 cases h : endV u.a u.b u.c i with
 | none => exact ⟨fun _ => rfl, fun _ => lt_le (ahead_behind v) (Int.le_of_lt (behind_high v))⟩
 | some e =>
  show stand (aheadOf v) ⟨1, e⟩ < 0 ↔ decide (cmpV v e < 0) = true
  rw [decide_eq_true_eq]
  have e1 : stand (aheadOf v) ⟨1, e⟩ = cmpV v e := by
   unfold stand
   by_cases h : cmpV v e = 0
   ·rw [if_neg (fun k => k.2.2 h), h]; rfl
   ·rw [if_pos ⟨rfl, rfl, h⟩]; rfl
  rw [e1]
theorem inK_iff {k : Int} (h1 : 1 ≤ k) (h8 : k ≤ 8) (u : Ver) {v : Ver} (hv : goodV v = true) : inK k u (aheadOf v) ↔ kindV k u v = true := by
 have hr := ahead_right hv
 have a1 := ahead_cmp u v
 have a2 := behind_cmp u v
 have a3 := cmp_behind u v
 have a4 := ahead_cmp v u
 have a5 := cmpV_ordr.flip v u
 have z1 : stand low (aheadOf v) ≤ 0 := Int.le_of_lt (low_ahead v)
 have z2 : stand (aheadOf v) high < 0 := lt_le (ahead_behind v) (Int.le_of_lt (behind_high v))
 have t1 : stand (aheadOf v) (endCut (caretV u)) < 0 ↔ hereV (caretV u) v = true := here_iff u v _
 have t2 : stand (aheadOf v) (endCut (tildeV u)) < 0 ↔ hereV (tildeV u) v = true := here_iff u v _
 unfold inK kindV
 rcases (show k = 1 ∨ k = 2 ∨ k = 3 ∨ k = 4 ∨ k = 5 ∨ k = 6 ∨ k = 7 ∨ k = 8 by omega) with rfl | rfl | rfl | rfl | rfl | rfl | rfl | rfl
 ·simp only [reduceIte, Int.reduceEq, if_false, decide_eq_true_eq]
  show (stand (aheadOf u) (aheadOf v) ≤ 0 ∧ stand (aheadOf v) high < 0) ↔ _
  omega
 ·simp only [reduceIte, Int.reduceEq, if_false, decide_eq_true_eq]
  show (stand (behindOf u) (aheadOf v) ≤ 0 ∧ stand (aheadOf v) high < 0) ↔ _
  omega
 ·simp only [reduceIte, Int.reduceEq, if_false, decide_eq_true_eq]
  show (stand low (aheadOf v) ≤ 0 ∧ stand (aheadOf v) (behindOf u) < 0) ↔ _
  omega
 ·simp only [reduceIte, Int.reduceEq, if_false, decide_eq_true_eq]
  show (stand low (aheadOf v) ≤ 0 ∧ stand (aheadOf v) (aheadOf u) < 0) ↔ _
  omega
 ·simp only [reduceIte, Int.reduceEq, if_false, decide_eq_true_eq]
  show (stand (aheadOf u) (aheadOf v) ≤ 0 ∧ stand (aheadOf v) (behindOf u) < 0) ↔ _
  omega
 ·simp only [reduceIte, Int.reduceEq, if_false, decide_eq_true_eq]
  show ¬ (stand (aheadOf u) (aheadOf v) ≤ 0 ∧ stand (aheadOf v) (behindOf u) < 0) ↔ _
  omega
 ·simp only [reduceIte, Int.reduceEq, if_false, Bool.and_eq_true, decide_eq_true_eq]
  show (stand (aheadOf u) (aheadOf v) ≤ 0 ∧ stand (aheadOf v) (endCut (caretV u)) < 0) ↔ _
  rw [t1]
  exact and_congr_left fun _ => by omega
 ·simp only [reduceIte, Int.reduceEq, if_false, Bool.and_eq_true, decide_eq_true_eq]
  show (stand (aheadOf u) (aheadOf v) ≤ 0 ∧ stand (aheadOf v) (endCut (tildeV u)) < 0) ↔ _
  rw [t2]
  exact and_congr_left fun _ => by omega
mutual
def inV : Rng → Ver → Bool
 | .mk k u l, v => if k = 9 then allV l v else if k = 10 then anyV l v else if k = 11 then notV l v else kindV k u v
def allV : List Rng → Ver → Bool
 | [], _ => true
 | r :: rs, v => inV r v && allV rs v
def anyV : List Rng → Ver → Bool
 | [], _ => false
 | r :: rs, v => inV r v || anyV rs v
def notV : List Rng → Ver → Bool
 | [], _ => true
 | r :: _, v => !inV r v
end
theorem inV_eq (k : Int) (u : Ver) (l : List Rng) (v : Ver) : inV (.mk k u l) v = if k = 9 then allV l v else if k = 10 then anyV l v else if k = 11 then notV l v else kindV k u v := by rw [inV]
theorem allV_cons (r : Rng) (rs : List Rng) (v : Ver) : allV (r :: rs) v = (inV r v && allV rs v) := by rw [allV]
theorem anyV_cons (r : Rng) (rs : List Rng) (v : Ver) : anyV (r :: rs) v = (inV r v || anyV rs v) := by rw [anyV]
theorem allV_iff {v : Ver} : ∀ {l : List Rng}, allV l v = true ↔ ∀ x ∈ l, inV x v = true
 | [] => by rw [allV]; simp
 | r :: rs => by rw [allV_cons, Bool.and_eq_true, allV_iff]; simp
theorem anyV_iff {v : Ver} : ∀ {l : List Rng}, anyV l v = true ↔ ∃ x ∈ l, inV x v = true
 | [] => by rw [anyV]; simp
 | r :: rs => by rw [anyV_cons, Bool.or_eq_true, anyV_iff]; simp
theorem inC_inV {v : Ver} (hv : goodV v = true) : ∀ (n : Nat) (r : Rng), SizeOf.sizeOf r ≤ n → ∀ d, goodR r d = true → (inC r (aheadOf v) ↔ inV r v = true)
 | 0, r, h, _, _ => by obtain ⟨k, u, l⟩ := r; simp at h
 | n + 1, .mk k u l, h, d, hg => by
  have z : inOne ⟨low, high⟩ (aheadOf v) := ahead_in (ahead_right hv)
  have IH : ∀ x ∈ l, (inC x (aheadOf v) ↔ inV x v = true) := fun x hx => by
   obtain ⟨_, h2, _⟩ := Range.good_cases hg
   exact inC_inV hv n x (by have := Range.size_mem (kind := k) (v := u) hx; omega) _ (Range.goodL_mem h2 hx)
  obtain ⟨_, _, h3⟩ := Range.good_cases hg
  rw [inV_eq]
  rcases h3 with ⟨a, b, _, rfl⟩ | ⟨_, ⟨b, rfl⟩ | ⟨b, _⟩ | ⟨b, y, rfl⟩⟩
  ·rw [inC_ver (by omega) b, if_neg (by omega), if_neg (by omega), if_neg (by omega), ← inK_iff a b u hv]
   exact ⟨fun g => g.2, fun g => ⟨z, g⟩⟩
  ·subst b
   rw [inC_ver (by omega) (by omega)]
   exact ⟨fun _ => rfl, fun _ => ⟨z, z⟩⟩
  ·rcases b with rfl | rfl
   ·rw [inC_and, if_pos rfl, allV_iff]
    exact ⟨fun g x hx => (IH x hx).1 (g.2 x hx), fun g => ⟨z, fun x hx => (IH x hx).2 (g x hx)⟩⟩
   ·rw [inC_or, if_neg (by omega), if_pos rfl, anyV_iff]
    exact ⟨fun ⟨x, hx, g⟩ => ⟨x, hx, (IH x hx).1 g⟩, fun ⟨x, hx, g⟩ => ⟨x, hx, (IH x hx).2 g⟩⟩
  ·subst b
   have hy := IH y (List.mem_singleton.2 rfl)
   rw [inC_not, if_neg (by omega), if_neg (by omega), if_pos rfl, notV, Bool.not_eq_true', ← Bool.not_eq_true, ← hy]
   exact ⟨fun g => g.2, fun g => ⟨z, g⟩⟩
theorem set_has {r : Rng} {d : Nat} {o : List Sp} {v : Ver} (h : SetOf r o) (hg : goodR r d = true) (hv : goodV v = true) : hasV o v = inV r v := by
 rw [Bool.eq_iff_iff, hasV_iff h.1.rights (ahead_right hv), h.2]
 exact inC_inV hv _ r (Nat.le_refl _) d hg
end Go.Proofs.YtgfbflnhjpbceaaGreatDoor.Nrm
