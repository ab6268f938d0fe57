/-
  What the theorem of the last text needs of these: SpSets, SpHas, SpPlain, SpHoldsPlain. Conditions: as each theorem states.
-/
import Derived.Test.YtgfbflnhjpbceaaGreatDoorAgaB1
import Derived.Test.YtgfbflnhjpbceaaGreatDoorAgaB15
import Derived.Test.YtgfbflnhjpbceaaGreatDoorAgaB16
import Derived.Test.YtgfbflnhjpbceaaGreatDoorAgaB19
import Derived.Test.YtgfbflnhjpbceaaGreatDoorShelfHas
import Derived.RegionTactic
import Derived.ChangeAlike
set_option maxRecDepth 100000
set_option maxHeartbeats 25600000
namespace Go.Proofs.YtgfbflnhjpbceaaGreatDoor.Span
open Go.RowKit Num Ident Semver Prec

theorem right_of {l : List RSp} {step : Int} {re : List REdge} (h : re.map REdge.edge = edgesOf (l.map RSp.sp) step) : ∀ e ∈ re, right e.cut.cut = true := fun e he =>
 edgesOf_right (l.map RSp.sp) step e.edge (by rw [← h]; exact List.mem_map_of_mem he)
theorem step_of {l : List RSp} {step : Int} {re : List REdge} (h : re.map REdge.edge = edgesOf (l.map RSp.sp) step) (h1 : -10 ≤ step) (h2 : step ≤ 10) : ∀ e ∈ re, -10 ≤ e.step ∧ e.step ≤ 10 := fun e he => by
 have hm : e.edge ∈ edgesOf (l.map RSp.sp) step := by rw [← h]; exact List.mem_map_of_mem he
 have := edgesOf_step _ _ _ hm
 show -10 ≤ e.edge.step ∧ e.edge.step ≤ 10
 rcases this with h | h <;> rw [h] <;> omega
theorem go_half (n : Int) : ∀ (l : List Edge) (cut : Cut) (was : Bool) (t : Int) (lo : Cut), 2 * (go n cut was t lo l).length ≤ l.length + (if was = true then 1 else 0)
 | [], _, _, _, _ => by rw [go]; simp
 | [e], cut, was, t, lo => by
  rw [go]
  by_cases h : was = true ∧ ¬ n ≤ t + e.step
  ·rw [if_pos h, if_pos h.1]; simp
  ·rw [if_neg h]; simp
 | e :: f :: r, cut, was, t, lo => by
  rw [go]
  by_cases h1 : stand cut f.cut = 0
  ·rw [if_pos h1]
   have := go_half n (f :: r) cut was (t + e.step) lo
   rw [List.length_cons]; omega
  ·rw [if_neg h1]
   by_cases h2 : n ≤ t + e.step ∧ was = false
   ·rw [if_pos h2]
    have := go_half n (f :: r) f.cut true (t + e.step) cut
    rw [if_pos rfl] at this
    rw [h2.2, if_neg (by simp), List.length_cons]; omega
   ·rw [if_neg h2]
    by_cases h3 : was = true ∧ ¬ n ≤ t + e.step
    ·rw [if_pos h3, if_pos h3.1]
     have := go_half n (f :: r) f.cut false (t + e.step) lo
     rw [if_neg (by simp)] at this
     rw [List.length_cons, List.length_cons]; omega
    ·rw [if_neg h3]
     have := go_half n (f :: r) f.cut was (t + e.step) lo
     rw [List.length_cons]; omega
theorem sweep_half {n : Int} (hn : 0 < n) (l : List Edge) : 2 * (sweepL n l).length ≤ l.length := by
 cases l with
 | nil => simp [sweepL]
 | cons e r =>
  unfold sweepL
  have := go_half n (e :: r) e.cut (decide (n ≤ 0)) 0 low
  rw [if_neg (by simp; omega)] at this
  exact this
def OwnsS (w : World) (B : Nat) (s : RSp) : Prop := OwnC w B s.lo ∧ OwnC w B s.hi
theorem OwnC.cap {w : World} {B : Nat} {r : RCut} (h : OwnC w B r) : r.v.pre.length ≤ r.c := by
 obtain ⟨A, c, e, hc, _⟩ := SRow.of_own h.own
 injection e with e1 e2 e3
 rw [e3]; exact hc
theorem OwnsS.kept {w w' : World} {B : Nat} {s : RSp} (h : OwnsS w B s) (hb : Below w.heap.size w w') : OwnsS w' B s := ⟨h.1.kept hb, h.2.kept hb⟩
theorem OwnsS.mono {w : World} {B B' : Nat} {s : RSp} (h : OwnsS w B s) (hB : B' ≤ B) : OwnsS w B' s := ⟨h.1.mono hB, h.2.mono hB⟩
theorem OwnsS.lies {w : World} {B : Nat} {s : RSp} (h : OwnsS w B s) : LiesS w s := ⟨h.1.lies, h.2.lies⟩
theorem OwnsS.grown {w w' : World} {B B2 : Nat} {s : RSp} {set : Value} {n : Nat} {xs : List Value} (h : OwnsS w B s) (hs : w.ownsRow B2 43 12 set n xs) (hg : w.grownBy w' set.ownBlock) : OwnsS w' B s := ⟨h.1.grown hs hg, h.2.grown hs hg⟩
def SetIn (w : World) (k : Nat) (P : List Sp → Prop) (e : Ending) (w' : World) : Prop :=
 ∃ (A : Option Addr) (n c : Nat) (out : List RSp), e = .returned (.slice A n c) ∧ SpRow w' A n out ∧ n ≤ k ∧ P (out.map RSp.sp) ∧ (∀ s ∈ out, OwnsS w' w.heap.size s) ∧ n ≤ c ∧ (A = none → c = 0) ∧ Below w.heap.size w w'
theorem setIn_of {w1 : World} {m : Int} {re0 : List REdge} {k : Nat} {P : List Sp → Prop} {e : Ending} {w' : World} (hm : 0 < m) (h : SweepPost w1 m re0 e w') (hn : re0.length ≤ 2 * k)
  (hP : ∀ l : List Edge, l.Perm (re0.map REdge.edge) → (l.Pairwise fun x y => stand x.cut y.cut ≤ 0) → P (sweepL m l)) : SetIn w1 k P e w' := by
 obtain ⟨B, set, out, re, rfl, hp, hs, hq, hB, ho, hc, hl, hb⟩ := h
 obtain ⟨A, c, rfl, hcap, hnil, hcell⟩ := own_cells svals_len ho rfl
 refine ⟨A, out.length, c, out, rfl, ⟨rfl, fun s hs => ⟨(hc s hs).1.lies, (hc s hs).2.lies⟩, fun h0 => ?_⟩, ?_, ?_, fun s hs => ⟨(hc s hs).1.mono hB, (hc s hs).2.mono hB⟩, hcap, hnil, hb⟩
 ·obtain ⟨g, h1, _, h2, _, h3⟩ := hcell h0
  exact ⟨g, 0, h1, h2, h3⟩
 ·have h1 := sweep_half hm (re.map REdge.edge)
  rw [← hq, List.length_map, List.length_map, hp.length_eq] at h1
  omega
 ·rw [hq]; exact hP _ (hp.map _) (List.pairwise_map.2 hs)
theorem SetIn.mono {w w1 : World} {k : Nat} {P : List Sp → Prop} {e : Ending} {w' : World} (h : SetIn w1 k P e w') (hb : Below w.heap.size w w1) : SetIn w k P e w' := by
 obtain ⟨A, n, c, out, h1, h2, h3, h4, h5, h6, h7, h8⟩ := h
 exact ⟨A, n, c, out, h1, h2, h3, h4, fun s hs => (h5 s hs).mono hb.size, h6, h7, hb.trans (h8.mono hb.size)⟩
theorem edges_out {w : World} {l : List RSp} {step : Int} {e : Ending} {w' : World} (h : EdgesPost w l step e w') : ∃ (A : Option Addr) (c : Nat) (re : List REdge), e = .returned (.slice A re.length c) ∧ w'.ownsRow w.heap.size 111 7 (.slice A re.length c) re.length (re.flatMap REdge.vals) ∧ re.map REdge.edge = edgesOf (l.map RSp.sp) step ∧ (∀ e ∈ re, Lies w e.cut) ∧ re.length ≤ 2 * l.length ∧ Below w.heap.size w w' := by
 obtain ⟨v, re, rfl, h1, h2, h3, h4, h5⟩ := h
 obtain ⟨A, c, rfl, _⟩ := own_cells evals_len h1 rfl
 exact ⟨A, c, re, rfl, h1, h2, h3, h4, h5⟩
def NormalOf (l : List Sp) (o : List Sp) : Prop := Norm o ∧ ∀ c, inS o c ↔ inR l c

theorem normal_in (A : Option Addr) (n c : Nat) (l : List RSp) (w : World) (hr : SpRow w A n l) (hn : n ≤ 5000) :
  Calls Tryz.prog 23 #[.slice A n c] w (SetIn w n (NormalOf (l.map RSp.sp))) := by
 have HR := Lib.hid hr
 have HL := Lib.hid hr.1
 clear hr
 go_enter Tryz.func23, Tryz.ntmps23
 go_wp2_with fail
 refine (edges_any A n c l 1 _ HR.out (by omega) (by omega) (by omega)).mono ?_
 intro e w1 h1
 obtain ⟨A1, c1, re, rfl, ho, hm, hl, hk, hb⟩ := edges_out h1
 have HO := Lib.hid ho
 have HM := Lib.hid hm
 have HI := Lib.hid hl
 have HB := Lib.hid hb
 have hk2 : re.length ≤ 2 * n := by rw [HL.out] at hk; omega
 clear ho hm hl hb h1 hk
 go_wp2_with fail
 refine (atLeast_any 1 _).mono ?_
 rintro e w2 ⟨rfl, rfl⟩
 go_wp2_with fail
 refine (sweep_any w _ w.heap.size _ re w1.heap.size 1 (HO.out.alloc _) HI.out (HB.out.alloc HB.out.size _) (Nat.le_refl _) (by simp) (by simp [go_sem]) (fun h => by have := (HO.out.lt _ h).2; omega) (right_of HM.out) (step_of HM.out (by omega) (by omega)) (by omega)).mono ?_
 intro e w3 h3
 have HS := Lib.hid (setIn_of (P := NormalOf (l.map RSp.sp)) (by omega) h3 hk2 (fun E hp hs => by
  rw [HM.out] at hp
  have hr : ∀ e ∈ E, right e.cut = true := fun e he => edgesOf_right _ _ e (hp.mem_iff.1 he)
  obtain ⟨k1, k2⟩ := sweep_norm (n := 1) (by omega) hs hr (by rw [total_perm hp, edgesOf_total]; omega)
  refine ⟨k1, fun c => (k2 c).trans ?_⟩
  rw [cov_perm hp, edgesOf_cov, ← times_pos]; omega))
 obtain ⟨A3, n3, c3, out, rfl, q1, q2, q3, q4, q5, q6, q7⟩ := HS.out
 clear h3
 go_wp2
 go_ret
 exact HS.out

theorem two_sets {m s1 s2 : Int} (hm : 0 < m) {l1 l2 : List Sp} {E : List Edge} (hp : E.Perm (edgesOf l1 s1 ++ edgesOf l2 s2)) (hs : E.Pairwise fun x y => stand x.cut y.cut ≤ 0) :
  Norm (sweepL m E) ∧ ∀ c, inS (sweepL m E) c ↔ m ≤ s1 * (times l1 c : Int) + s2 * (times l2 c : Int) := by
 have hr : ∀ e ∈ E, right e.cut = true := fun e he => by
  rcases List.mem_append.1 (hp.mem_iff.1 he) with h | h
  ·exact edgesOf_right _ _ e h
  ·exact edgesOf_right _ _ e h
 obtain ⟨k1, k2⟩ := sweep_norm hm hs hr (by rw [total_perm hp, total_append, edgesOf_total, edgesOf_total]; omega)
 refine ⟨k1, fun c => (k2 c).trans ?_⟩
 rw [cov_perm hp, cov_append, edgesOf_cov, edgesOf_cov]
def UnionOf (a b : List Sp) (o : List Sp) : Prop := Norm o ∧ ∀ c, inS o c ↔ inR a c ∨ inR b c
def NotOf (l : List Sp) (o : List Sp) : Prop := Norm o ∧ ∀ c, inS o c ↔ inOne ⟨low, high⟩ c ∧ ¬ inR l c
theorem union_of {a b : List Sp} {E : List Edge} (hp : E.Perm (edgesOf a 1 ++ edgesOf b 1)) (hs : E.Pairwise fun x y => stand x.cut y.cut ≤ 0) : UnionOf a b (sweepL 1 E) := by
 obtain ⟨h1, h2⟩ := two_sets (m := 1) (by omega) hp hs
 refine ⟨h1, fun c => (h2 c).trans ?_⟩
 rw [← times_pos, ← times_pos]; omega
theorem all_norm : Norm [⟨low, high⟩] := ⟨fun s hs => by rw [List.mem_singleton] at hs; subst hs; exact (cnt_iff _).2 ⟨low_right, high_right, low_high⟩, List.pairwise_singleton _ _⟩
theorem not_of {l : List Sp} {E : List Edge} (hp : E.Perm (edgesOf [⟨low, high⟩] 1 ++ edgesOf l (-1))) (hs : E.Pairwise fun x y => stand x.cut y.cut ≤ 0) : NotOf l (sweepL 1 E) := by
 obtain ⟨h1, h2⟩ := two_sets (m := 1) (by omega) hp hs
 refine ⟨h1, fun c => (h2 c).trans ?_⟩
 have e : inOne ⟨low, high⟩ c ↔ 1 ≤ times [⟨low, high⟩] c := by
  rw [times_pos, all_norm.inR]
  exact ⟨fun h => ⟨_, List.mem_singleton.2 rfl, h⟩, fun ⟨s, hs, h⟩ => by rw [List.mem_singleton] at hs; subst hs; exact h⟩
 rw [e, ← times_pos]
 have := all_norm.once c
 omega

theorem SpRow.one (w : World) (s : RSp) (h : LiesS w s) : SpRow (w.alloc (.cells s.vals.toArray 43)) (some ⟨w.heap.size, 0, none⟩) 1 [s] := by
 refine ⟨rfl, fun x hx => ?_, fun _ => ⟨w.heap.size, 0, rfl, by simp, fun j hj i v hv => ?_⟩⟩
 ·rw [List.mem_singleton] at hx; subst hx; exact h.kept ((Below.refl _ _).alloc (Nat.le_refl _) _)
 ·obtain rfl : j = 0 := by omega
  have := news_new w s.vals 43 i v hv
  rw [add_none] at this
  simpa using this

theorem not_in (A : Option Addr) (n c : Nat) (l : List RSp) (w : World) (hr : SpRow w A n l) (hn : n ≤ 5000) :
  Calls Tryz.prog 58 #[.slice A n c] w (SetIn w (1 + n) (NotOf (l.map RSp.sp))) := by
 have HB0 : Hid (Below w.heap.size w (w.alloc (.cells #[.int .i64 0, .int .u64 0, .int .u64 0, .int .u64 0, .slice none 0 0, .slice none 0 0, .int .i64 3, .int .u64 0, .int .u64 0, .int .u64 0, .slice none 0 0, .slice none 0 0] 43))) := (Below.refl _ _).alloc (Nat.le_refl _) _
 have HR0 : Hid (SpRow (w.alloc (.cells #[.int .i64 0, .int .u64 0, .int .u64 0, .int .u64 0, .slice none 0 0, .slice none 0 0, .int .i64 3, .int .u64 0, .int .u64 0, .int .u64 0, .slice none 0 0, .slice none 0 0] 43)) (some ⟨w.heap.size, 0, none⟩) 1 [⟨rlow, rhigh⟩]) := SpRow.one w ⟨rlow, rhigh⟩ ⟨Lies.low _, Lies.high _⟩
 have HR := Lib.hid (hr.kept HB0.out)
 have HL := Lib.hid hr.1
 clear hr
 go_enter Tryz.func58, Tryz.ntmps58
 go_upto_region 2 with (fail)
 generalize w.alloc (.cells #[.int .i64 0, .int .u64 0, .int .u64 0, .int .u64 0, .slice none 0 0, .slice none 0 0, .int .i64 3, .int .u64 0, .int .u64 0, .int .u64 0, .slice none 0 0, .slice none 0 0] 43) = w0 at HB0 HR0 HR ⊢
 go_wp2_with fail
 refine (edges_any _ 1 _ [⟨rlow, rhigh⟩] 1 _ HR0.out (by omega) (by omega) (by omega)).mono ?_
 intro e w1 h1
 obtain ⟨A1, c1, re1, rfl, ho, hm, hl, hk1, hb⟩ := edges_out h1
 have HO1 := Lib.hid ho
 have HM1 := Lib.hid hm
 have HI1 := Lib.hid hl
 have HB1 := Lib.hid (HB0.out.trans (hb.mono HB0.out.size))
 have HC1 := Lib.hid hb
 clear ho hm hl hb h1
 go_wp2_with fail
 refine (edges_any _ n _ l (-1) _ (HR.out.kept HC1.out) (by omega) (by omega) (by omega)).mono ?_
 intro e w2 h2
 obtain ⟨A2, c2, re2, rfl, ho, hm, hl, hk2, hb⟩ := edges_out h2
 have HO2 := Lib.hid ho
 have HM2 := Lib.hid hm
 have HI2 := Lib.hid hl
 have HB2 := Lib.hid (HB1.out.trans (hb.mono HB1.out.size))
 have HC2 := Lib.hid hb
 clear ho hm hl hb h2
 have hka : re1.length ≤ 2 := by simpa using hk1
 have hkb : re2.length ≤ 2 * n := by rw [HL.out] at hk2; omega
 have hkk : (re1 ++ re2).length ≤ 2 + 2 * n := by rw [List.length_append]; omega
 have AQ := Lib.hid ((Below.refl w2.heap.size w2).alloc (Nat.le_refl _) (.cells #[.slice A1 re1.length c1, .slice A2 re2.length c2] 63))
 have X1 := Lib.hid (own_below HO1.out HC2.out)
 have S1 := Lib.hid ((EdSrc.of_own X1.out).kept AQ.out)
 have S2 := Lib.hid ((EdSrc.of_own HO2.out).kept AQ.out)
 have BQ := Lib.hid (HB2.out.trans (AQ.out.mono HB2.out.size))
 have IQ : Hid (∀ e ∈ re1 ++ re2, Lies (w2.alloc (.cells #[.slice A1 re1.length c1, .slice A2 re2.length c2] 63)) e.cut) := fun e he => by
  rcases List.mem_append.1 he with he | he
  ·exact (((HI1.out e he).kept HC1.out).kept HC2.out).kept AQ.out
  ·exact ((HI2.out e he).kept HC2.out).kept AQ.out
 have HMM := Lib.hid ((List.map_append (f := REdge.edge) (l₁ := re1) (l₂ := re2)).trans (congr (congrArg _ HM1.out) HM2.out))
 have HRR : Hid (∀ e ∈ re1 ++ re2, right e.cut.cut = true) := fun e he => (List.mem_append.1 he).elim (right_of HM1.out e) (right_of HM2.out e)
 have HST : Hid (∀ e ∈ re1 ++ re2, -10 ≤ e.step ∧ e.step ≤ 10) := fun e he => (List.mem_append.1 he).elim (step_of HM1.out (by omega) (by omega) e) (step_of HM2.out (by omega) (by omega) e)
 go_wp2_with fail
 refine (concat_any w2.heap.size _ _ re1 re2 _ (by simp) (by simp [go_sem]) (by simp [go_sem]) S1.out S2.out (by omega) (by omega)).mono ?_
 rintro e w8 ⟨v8, rfl, ho8, hb8⟩
 generalize re1 ++ re2 = rr at ho8 hkk IQ HMM HRR HST
 obtain ⟨A8, c8, rfl, _⟩ := own_cells evals_len ho8 rfl
 have O8 := Lib.hid ho8
 have B8 := Lib.hid hb8
 clear ho8 hb8
 generalize (w2.alloc (.cells #[.slice A1 re1.length c1, .slice A2 re2.length c2] 63)) = WQ at BQ IQ O8 B8
 go_wp2_with fail
 refine (atLeast_any 1 _).mono ?_
 rintro e w9 ⟨rfl, rfl⟩
 go_wp2_with fail
 refine (sweep_any WQ _ WQ.heap.size _ rr w8.heap.size 1 (O8.out.alloc _) IQ.out (B8.out.alloc B8.out.size _) (Nat.le_refl _) (by simp) (by simp [go_sem]) (fun h => by have := (O8.out.lt _ h).2; omega) HRR.out HST.out (by omega)).mono ?_
 intro e wz hz
 have HS := Lib.hid ((setIn_of (P := NotOf (l.map RSp.sp)) (k := 1 + n) (by omega) hz (by omega) (fun E hp hs => by
  rw [HMM.out] at hp
  exact not_of hp hs)).mono BQ.out)
 obtain ⟨A3, n3, c3, out, rfl, q1, q2, q3, q4, q5, q6, q7⟩ := HS.out
 clear hz
 go_wp2
 go_ret
 exact HS.out
end Go.Proofs.YtgfbflnhjpbceaaGreatDoor.Span
namespace Go.Proofs.YtgfbflnhjpbceaaGreatDoor.Span
open Go.RowKit Num Ident Semver Prec

def hasOne (a b : Cut) (s : Sp) : Bool := decide (cmpC s.lo a ≤ 0) && decide (0 ≤ cmpC s.hi b)

theorem has1_any (s : RSp) (ra rb : RCut) (p1 p2 : Nat) (w : World) (h : LiesS w s) (k1 : At6B w p1 (.int .i64 ra.kind) (.int .u64 (ra.v.a : Int)) (.int .u64 (ra.v.b : Int)) (.int .u64 (ra.v.c : Int)) (.slice ra.A ra.v.pre.length ra.c) (.slice ra.B ra.v.build.length ra.d)) (k2 : At6B w p2 (.int .i64 rb.kind) (.int .u64 (rb.v.a : Int)) (.int .u64 (rb.v.b : Int)) (.int .u64 (rb.v.c : Int)) (.slice rb.A rb.v.pre.length rb.c) (.slice rb.B rb.v.build.length rb.d)) (h1 : Lies w ra) (h2 : Lies w rb) :
  Calls Tryz.prog 74 #[.agg #[.int .i64 s.lo.kind, .int .u64 (s.lo.v.a : Int), .int .u64 (s.lo.v.b : Int), .int .u64 (s.lo.v.c : Int), .slice s.lo.A s.lo.v.pre.length s.lo.c, .slice s.lo.B s.lo.v.build.length s.lo.d, .int .i64 s.hi.kind, .int .u64 (s.hi.v.a : Int), .int .u64 (s.hi.v.b : Int), .int .u64 (s.hi.v.c : Int), .slice s.hi.A s.hi.v.pre.length s.hi.c, .slice s.hi.B s.hi.v.build.length s.hi.d], .pointer (some ⟨p1, 0, none⟩), .pointer (some ⟨p2, 0, none⟩)] w fun e w' => e = .returned (.bool (hasOne ra.cut rb.cut s.sp)) ∧ Below w.heap.size w w' := by
 have HBa : Hid (Below w.heap.size w (w.alloc (.cells #[.int .i64 s.lo.kind, .int .u64 (s.lo.v.a : Int), .int .u64 (s.lo.v.b : Int), .int .u64 (s.lo.v.c : Int), .slice s.lo.A s.lo.v.pre.length s.lo.c, .slice s.lo.B s.lo.v.build.length s.lo.d, .int .i64 s.hi.kind, .int .u64 (s.hi.v.a : Int), .int .u64 (s.hi.v.b : Int), .int .u64 (s.hi.v.c : Int), .slice s.hi.A s.hi.v.pre.length s.hi.c, .slice s.hi.B s.hi.v.build.length s.hi.d] 43))) := (Below.refl _ _).alloc (Nat.le_refl _) _
 have HL := Lib.hid (h.kept HBa.out)
 have HA := Lib.hid (h1.kept HBa.out)
 have HB := Lib.hid (h2.kept HBa.out)
 have K0 : Hid (At12B (w.alloc (.cells #[.int .i64 s.lo.kind, .int .u64 (s.lo.v.a : Int), .int .u64 (s.lo.v.b : Int), .int .u64 (s.lo.v.c : Int), .slice s.lo.A s.lo.v.pre.length s.lo.c, .slice s.lo.B s.lo.v.build.length s.lo.d, .int .i64 s.hi.kind, .int .u64 (s.hi.v.a : Int), .int .u64 (s.hi.v.b : Int), .int .u64 (s.hi.v.c : Int), .slice s.hi.A s.hi.v.pre.length s.hi.c, .slice s.hi.B s.hi.v.build.length s.hi.d] 43)) w.heap.size (.int .i64 s.lo.kind) (.int .u64 (s.lo.v.a : Int)) (.int .u64 (s.lo.v.b : Int)) (.int .u64 (s.lo.v.c : Int)) (.slice s.lo.A s.lo.v.pre.length s.lo.c) (.slice s.lo.B s.lo.v.build.length s.lo.d) (.int .i64 s.hi.kind) (.int .u64 (s.hi.v.a : Int)) (.int .u64 (s.hi.v.b : Int)) (.int .u64 (s.hi.v.c : Int)) (.slice s.hi.A s.hi.v.pre.length s.hi.c) (.slice s.hi.B s.hi.v.build.length s.hi.d)) := At12B.new w _ _ _ _ _ _ _ _ _ _ _ _ _
 have Y0 := Lib.hid (k1.kept HBa.out k1.1)
 have Z0 := Lib.hid (k2.kept HBa.out k2.1)
 clear h h1 h2 k1 k2
 have HF : Hid (hasOne ra.cut rb.cut s.sp = (decide (cmpC s.lo.cut ra.cut ≤ 0) && decide (0 ≤ cmpC s.hi.cut rb.cut))) := rfl
 go_enter Tryz.func74, Tryz.ntmps74
 go_upto_region 1 with (fail)
 generalize (w.alloc (.cells #[.int .i64 s.lo.kind, .int .u64 (s.lo.v.a : Int), .int .u64 (s.lo.v.b : Int), .int .u64 (s.lo.v.c : Int), .slice s.lo.A s.lo.v.pre.length s.lo.c, .slice s.lo.B s.lo.v.build.length s.lo.d, .int .i64 s.hi.kind, .int .u64 (s.hi.v.a : Int), .int .u64 (s.hi.v.b : Int), .int .u64 (s.hi.v.c : Int), .slice s.hi.A s.hi.v.pre.length s.hi.c, .slice s.hi.B s.hi.v.build.length s.hi.d] 43)) = W at HBa HL HA HB K0 Y0 Z0 ⊢
 obtain ⟨hz, _, x0, x1, x2, x3, x4, x5, x6, x7, x8, x9, x10, x11⟩ := K0.out
 obtain ⟨hy, _, y0, y1, y2, y3, y4, y5⟩ := Y0.out
 go_wp2_with fail
 refine (compareC_any s.lo ra _ HL.out.lo HA.out).mono ?_
 rintro e w1 ⟨rfl, hb1⟩
 have K1 := Lib.hid (K0.out.kept hb1 hz)
 have Z1 := Lib.hid (Z0.out.kept hb1 Z0.out.1)
 have L1 := Lib.hid (HL.out.kept hb1)
 have M1 := Lib.hid (HB.out.kept hb1)
 have B1 := Lib.hid (HBa.out.trans (hb1.mono HBa.out.size))
 clear hb1 hz hy x0 x1 x2 x3 x4 x5 x6 x7 x8 x9 x10 x11 y0 y1 y2 y3 y4 y5
 obtain ⟨hz1, _, x0, x1, x2, x3, x4, x5, x6, x7, x8, x9, x10, x11⟩ := K1.out
 obtain ⟨_, _, z0, z1, z2, z3, z4, z5⟩ := Z1.out
 generalize cmpC s.lo.cut ra.cut = c1 at HF ⊢
 by_cases hc : c1 ≤ 0
 ·have hd : decide (c1 ≤ 0) = true := decide_eq_true hc
  go_wp2_with fail
  refine (compareC_any s.hi rb _ L1.out.hi M1.out).mono ?_
  rintro e w2 ⟨rfl, hb2⟩
  have B2 := Lib.hid (B1.out.trans (hb2.mono B1.out.size))
  clear hb2 x0 x1 x2 x3 x4 x5 x6 x7 x8 x9 x10 x11 z0 z1 z2 z3 z4 z5
  generalize cmpC s.hi.cut rb.cut = c2 at HF ⊢
  by_cases hc2 : 0 ≤ c2
  ·have HF2 : Hid (hasOne ra.cut rb.cut s.sp = true) := by have := HF.out; unfold Hid; rw [this]; simp [hc, hc2]
   clear HF
   go_wp2
   go_ret
   exact ⟨by rw [HF2.out]; rfl, B2.out⟩
  ·have HF2 : Hid (hasOne ra.cut rb.cut s.sp = false) := by have := HF.out; unfold Hid; rw [this]; simp [hc]; omega
   have hd2 : decide (0 ≤ c2) = false := decide_eq_false hc2
   clear HF
   go_wp2
   go_ret
   exact ⟨by rw [HF2.out]; rfl, B2.out⟩
 ·have HF2 : Hid (hasOne ra.cut rb.cut s.sp = false) := by have := HF.out; unfold Hid; rw [this, decide_eq_false hc]; rfl
  have hd : decide (c1 ≤ 0) = false := decide_eq_false hc
  clear HF
  go_wp2
  go_ret
  exact ⟨by rw [HF2.out]; rfl, B1.out⟩

structure LaidS (w : World) where
 s : RSp
 h : LiesS w s
instance (w : World) : Inhabited (LaidS w) := ⟨⟨⟨rlow, rlow⟩, ⟨Lies.low w, Lies.low w⟩⟩⟩
theorem index_none (P : Option Addr) (c : Nat) (f : Value) (w : World) : Calls Tryz.prog 106 #[.slice P 0 c, f] w fun e w' => e = .returned (.int .i64 (-1)) ∧ w = w' := by
 go_enter Tryz.func106, Tryz.ntmps106
 go_wp2
 go_loop [5, 8] (fun _ i => i = .int .i64 0) (fun _ _ => 0)
 case atStart => rfl
 case round =>
  subst hrel
  go_wp2
  go_ret
  exact ⟨rfl, rfl⟩
theorem contains_none (P : Option Addr) (c : Nat) (f : Value) (w : World) : Calls Tryz.prog 73 #[.slice P 0 c, f] w fun e w' => e = .returned (.bool false) ∧ w = w' := by
 go_enter Tryz.func73, Tryz.ntmps73
 go_wp2_with fail
 refine (index_none _ _ _ _).mono ?_
 rintro e w' ⟨rfl, rfl⟩
 go_wp2
 go_ret
 exact ⟨rfl, rfl⟩
theorem contains_any (P : Option Addr) (n c : Nat) (l : List RSp) (p1 p2 : Nat) (ra rb : RCut) (w : World) (hr : SpRow w P n l) (hn : n ≤ 100000) (k1 : At6B w p1 (.int .i64 ra.kind) (.int .u64 (ra.v.a : Int)) (.int .u64 (ra.v.b : Int)) (.int .u64 (ra.v.c : Int)) (.slice ra.A ra.v.pre.length ra.c) (.slice ra.B ra.v.build.length ra.d)) (k2 : At6B w p2 (.int .i64 rb.kind) (.int .u64 (rb.v.a : Int)) (.int .u64 (rb.v.b : Int)) (.int .u64 (rb.v.c : Int)) (.slice rb.A rb.v.pre.length rb.c) (.slice rb.B rb.v.build.length rb.d)) (h1 : Lies w ra) (h2 : Lies w rb) :
  Calls Tryz.prog 73 #[.slice P n c, .func (.func 74) #[] #[.pointer (some ⟨p1, 0, none⟩), .pointer (some ⟨p2, 0, none⟩)]] w fun e w' => e = .returned (.bool ((l.map RSp.sp).any (hasOne ra.cut rb.cut))) ∧ Below w.heap.size w w' := by
 obtain ⟨hl, hlie, hc⟩ := hr
 rcases Nat.eq_zero_or_pos n with h0 | h0
 ·subst h0
  obtain rfl : l = [] := List.eq_nil_of_length_eq_zero hl
  exact (contains_none P c _ w).mono fun e w' ⟨he, hw⟩ => ⟨he, by subst hw; exact Below.refl _ _⟩
 ·obtain ⟨b, o, rfl, hb, hcell⟩ := hc h0
  obtain ⟨zs, hz⟩ : ∃ zs : List (LaidS w), zs.map LaidS.s = l := ⟨l.pmap (fun s h => (⟨s, h⟩ : LaidS w)) hlie, by simp [List.map_pmap]⟩
  have hzl : zs.length = n := by rw [← hl, ← hz, List.length_map]
  have hp : PredBelow Tryz.prog 74 #[.pointer (some ⟨p1, 0, none⟩), .pointer (some ⟨p2, 0, none⟩)] (fun x : LaidS w => .agg x.s.vals.toArray) (fun x => hasOne ra.cut rb.cut x.s.sp) w := by
   intro W x hB
   exact (has1_any x.s ra rb p1 p2 W (x.h.kept hB) (k1.kept hB k1.1) (k2.kept hB k2.1) (h1.kept hB) (h2.kept hB)).mono fun e w' ⟨he, hb'⟩ => ⟨he, hB.trans (hb'.mono hB.size)⟩
  have hcon := AnyQ.slices_ContainsFunc Tryz.hasL 12 Tryz.isAgg43 Tryz.sizeOf43 (fun x : LaidS w => x.s.vals) (fun _ => rfl) (fun x => hasOne ra.cut rb.cut x.s.sp) 74 #[.pointer (some ⟨p1, 0, none⟩), .pointer (some ⟨p2, 0, none⟩)] (enters_of Tryz.func74 (by kernel_rfl) rfl) b o n c zs w hp (by rw [hzl]; exact Nat.le_refl _) (by omega) hb
   (fun j hj i v hv => hcell j (by omega) i v (by
    have e : l.getD j default = zs[j]!.s := by
     rw [getElem!_pos zs j hj, ← hz]; simp [List.getD, hj]
    rw [e]; exact hv))
  refine hcon.mono fun e w' ⟨he, hb'⟩ => ⟨?_, hb'⟩
  rw [he, List.take_of_length_le (by rw [hzl]; exact Nat.le_refl _), ← hz, List.map_map, List.any_map]; rfl

theorem has_any (P : Option Addr) (n c : Nat) (l : List RSp) (v : Ver) (A : Option Addr) (cA : Nat) (B : Option Addr) (cB : Nat) (w : World) (hr : SpRow w P n l) (hn : n ≤ 100000) (h1 : SRow w A v.pre.length v.pre) (hf : Fit v.pre) :
  Calls Tryz.prog 38 #[.slice P n c, .agg #[.int .u64 (v.a : Int), .int .u64 (v.b : Int), .int .u64 (v.c : Int), .slice A v.pre.length cA, .slice B v.build.length cB]] w fun e w' => e = .returned (.bool ((l.map RSp.sp).any (hasOne (aheadOf v) (behindOf v)))) ∧ Below w.heap.size w w' := by
 have HR := Lib.hid hr
 have HS := Lib.hid h1
 have HF := Lib.hid hf
 clear hr h1 hf
 generalize hg : (l.map RSp.sp).any (hasOne (aheadOf v) (behindOf v)) = g
 have HG := Lib.hid hg
 clear hg
 go_enter Tryz.func38, Tryz.ntmps38
 go_upto_region 2 with (fail)
 go_region
 ·have HB : Hid (Below w.heap.size w (((w.alloc (.cells #[.int .u64 (v.a : Int), .int .u64 (v.b : Int), .int .u64 (v.c : Int), .slice A v.pre.length cA, .slice none 0 0] 25)).alloc (.cells #[.int .i64 1, .int .u64 (v.a : Int), .int .u64 (v.b : Int), .int .u64 (v.c : Int), .slice A v.pre.length cA, .slice none 0 0] 41)).alloc (.cells #[.int .i64 2, .int .u64 (v.a : Int), .int .u64 (v.b : Int), .int .u64 (v.c : Int), .slice A v.pre.length cA, .slice none 0 0] 41)).drew) := (((((Below.refl _ _).alloc (Nat.le_refl _) _).alloc (by simp) _).alloc (by simp; omega) _)).drew
  have Q1 : Hid (At6B (((w.alloc (.cells #[.int .u64 (v.a : Int), .int .u64 (v.b : Int), .int .u64 (v.c : Int), .slice A v.pre.length cA, .slice none 0 0] 25)).alloc (.cells #[.int .i64 1, .int .u64 (v.a : Int), .int .u64 (v.b : Int), .int .u64 (v.c : Int), .slice A v.pre.length cA, .slice none 0 0] 41)).alloc (.cells #[.int .i64 2, .int .u64 (v.a : Int), .int .u64 (v.b : Int), .int .u64 (v.c : Int), .slice A v.pre.length cA, .slice none 0 0] 41)).drew (w.heap.size + 1) (.int .i64 1) (.int .u64 (v.a : Int)) (.int .u64 (v.b : Int)) (.int .u64 (v.c : Int)) (.slice A v.pre.length cA) (.slice none 0 0)) := by
   have q := (At6B.new (w.alloc (.cells #[.int .u64 (v.a : Int), .int .u64 (v.b : Int), .int .u64 (v.c : Int), .slice A v.pre.length cA, .slice none 0 0] 25)) 41 (.int .i64 1) (.int .u64 (v.a : Int)) (.int .u64 (v.b : Int)) (.int .u64 (v.c : Int)) (.slice A v.pre.length cA) (.slice none 0 0)).kept ((Below.refl _ _).alloc (Nat.le_refl _) (.cells #[.int .i64 2, .int .u64 (v.a : Int), .int .u64 (v.b : Int), .int .u64 (v.c : Int), .slice A v.pre.length cA, .slice none 0 0] 41)) (by simp)
   rw [size_alloc] at q; exact q
  have Q2 : Hid (At6B (((w.alloc (.cells #[.int .u64 (v.a : Int), .int .u64 (v.b : Int), .int .u64 (v.c : Int), .slice A v.pre.length cA, .slice none 0 0] 25)).alloc (.cells #[.int .i64 1, .int .u64 (v.a : Int), .int .u64 (v.b : Int), .int .u64 (v.c : Int), .slice A v.pre.length cA, .slice none 0 0] 41)).alloc (.cells #[.int .i64 2, .int .u64 (v.a : Int), .int .u64 (v.b : Int), .int .u64 (v.c : Int), .slice A v.pre.length cA, .slice none 0 0] 41)).drew (w.heap.size + 1 + 1) (.int .i64 2) (.int .u64 (v.a : Int)) (.int .u64 (v.b : Int)) (.int .u64 (v.c : Int)) (.slice A v.pre.length cA) (.slice none 0 0)) := by
   have q := At6B.new ((w.alloc (.cells #[.int .u64 (v.a : Int), .int .u64 (v.b : Int), .int .u64 (v.c : Int), .slice A v.pre.length cA, .slice none 0 0] 25)).alloc (.cells #[.int .i64 1, .int .u64 (v.a : Int), .int .u64 (v.b : Int), .int .u64 (v.c : Int), .slice A v.pre.length cA, .slice none 0 0] 41)) 41 (.int .i64 2) (.int .u64 (v.a : Int)) (.int .u64 (v.b : Int)) (.int .u64 (v.c : Int)) (.slice A v.pre.length cA) (.slice none 0 0)
   rw [size_alloc, size_alloc] at q; exact q
  generalize (((w.alloc (.cells #[.int .u64 (v.a : Int), .int .u64 (v.b : Int), .int .u64 (v.c : Int), .slice A v.pre.length cA, .slice none 0 0] 25)).alloc (.cells #[.int .i64 1, .int .u64 (v.a : Int), .int .u64 (v.b : Int), .int .u64 (v.c : Int), .slice A v.pre.length cA, .slice none 0 0] 41)).alloc (.cells #[.int .i64 2, .int .u64 (v.a : Int), .int .u64 (v.b : Int), .int .u64 (v.c : Int), .slice A v.pre.length cA, .slice none 0 0] 41)).drew = W at HB Q1 Q2 ⊢
  have HV : Hid (SRow W A v.pre.length v.pre) := HS.out.kept HB.out
  go_wp2_with fail
  refine (contains_any P n c l _ _ ⟨1, bare v, A, cA, none, 0⟩ ⟨2, bare v, A, cA, none, 0⟩ _ (HR.out.kept HB.out) hn Q1.out Q2.out ⟨HV.out, SRow.none_ _ _, HF.out, Fit.nil⟩ ⟨HV.out, SRow.none_ _ _, HF.out, Fit.nil⟩).mono ?_
  rintro e w1 ⟨he, hb1⟩
  have he2 : e = .returned (.bool g) := by rw [← HG.out]; exact he
  subst he2
  clear he
  have B1 := Lib.hid (HB.out.trans (hb1.mono HB.out.size))
  clear hb1
  go_wp2
  go_ret
  exact ⟨rfl, B1.out⟩
 ·have HB : Hid (Below w.heap.size w (((w.alloc (.cells #[.int .u64 (v.a : Int), .int .u64 (v.b : Int), .int .u64 (v.c : Int), .slice A v.pre.length cA, .slice none 0 0] 25)).alloc (.cells #[.int .i64 2, .int .u64 (v.a : Int), .int .u64 (v.b : Int), .int .u64 (v.c : Int), .slice A v.pre.length cA, .slice none 0 0] 41)).alloc (.cells #[.int .i64 1, .int .u64 (v.a : Int), .int .u64 (v.b : Int), .int .u64 (v.c : Int), .slice A v.pre.length cA, .slice none 0 0] 41)).drew) := (((((Below.refl _ _).alloc (Nat.le_refl _) _).alloc (by simp) _).alloc (by simp; omega) _)).drew
  have Q1 : Hid (At6B (((w.alloc (.cells #[.int .u64 (v.a : Int), .int .u64 (v.b : Int), .int .u64 (v.c : Int), .slice A v.pre.length cA, .slice none 0 0] 25)).alloc (.cells #[.int .i64 2, .int .u64 (v.a : Int), .int .u64 (v.b : Int), .int .u64 (v.c : Int), .slice A v.pre.length cA, .slice none 0 0] 41)).alloc (.cells #[.int .i64 1, .int .u64 (v.a : Int), .int .u64 (v.b : Int), .int .u64 (v.c : Int), .slice A v.pre.length cA, .slice none 0 0] 41)).drew (w.heap.size + 1) (.int .i64 2) (.int .u64 (v.a : Int)) (.int .u64 (v.b : Int)) (.int .u64 (v.c : Int)) (.slice A v.pre.length cA) (.slice none 0 0)) := by
   have q := (At6B.new (w.alloc (.cells #[.int .u64 (v.a : Int), .int .u64 (v.b : Int), .int .u64 (v.c : Int), .slice A v.pre.length cA, .slice none 0 0] 25)) 41 (.int .i64 2) (.int .u64 (v.a : Int)) (.int .u64 (v.b : Int)) (.int .u64 (v.c : Int)) (.slice A v.pre.length cA) (.slice none 0 0)).kept ((Below.refl _ _).alloc (Nat.le_refl _) (.cells #[.int .i64 1, .int .u64 (v.a : Int), .int .u64 (v.b : Int), .int .u64 (v.c : Int), .slice A v.pre.length cA, .slice none 0 0] 41)) (by simp)
   rw [size_alloc] at q; exact q
  have Q2 : Hid (At6B (((w.alloc (.cells #[.int .u64 (v.a : Int), .int .u64 (v.b : Int), .int .u64 (v.c : Int), .slice A v.pre.length cA, .slice none 0 0] 25)).alloc (.cells #[.int .i64 2, .int .u64 (v.a : Int), .int .u64 (v.b : Int), .int .u64 (v.c : Int), .slice A v.pre.length cA, .slice none 0 0] 41)).alloc (.cells #[.int .i64 1, .int .u64 (v.a : Int), .int .u64 (v.b : Int), .int .u64 (v.c : Int), .slice A v.pre.length cA, .slice none 0 0] 41)).drew (w.heap.size + 1 + 1) (.int .i64 1) (.int .u64 (v.a : Int)) (.int .u64 (v.b : Int)) (.int .u64 (v.c : Int)) (.slice A v.pre.length cA) (.slice none 0 0)) := by
   have q := At6B.new ((w.alloc (.cells #[.int .u64 (v.a : Int), .int .u64 (v.b : Int), .int .u64 (v.c : Int), .slice A v.pre.length cA, .slice none 0 0] 25)).alloc (.cells #[.int .i64 2, .int .u64 (v.a : Int), .int .u64 (v.b : Int), .int .u64 (v.c : Int), .slice A v.pre.length cA, .slice none 0 0] 41)) 41 (.int .i64 1) (.int .u64 (v.a : Int)) (.int .u64 (v.b : Int)) (.int .u64 (v.c : Int)) (.slice A v.pre.length cA) (.slice none 0 0)
   rw [size_alloc, size_alloc] at q; exact q
  generalize (((w.alloc (.cells #[.int .u64 (v.a : Int), .int .u64 (v.b : Int), .int .u64 (v.c : Int), .slice A v.pre.length cA, .slice none 0 0] 25)).alloc (.cells #[.int .i64 2, .int .u64 (v.a : Int), .int .u64 (v.b : Int), .int .u64 (v.c : Int), .slice A v.pre.length cA, .slice none 0 0] 41)).alloc (.cells #[.int .i64 1, .int .u64 (v.a : Int), .int .u64 (v.b : Int), .int .u64 (v.c : Int), .slice A v.pre.length cA, .slice none 0 0] 41)).drew = W at HB Q1 Q2 ⊢
  have HV : Hid (SRow W A v.pre.length v.pre) := HS.out.kept HB.out
  go_wp2_with fail
  refine (contains_any P n c l _ _ ⟨1, bare v, A, cA, none, 0⟩ ⟨2, bare v, A, cA, none, 0⟩ _ (HR.out.kept HB.out) hn Q2.out Q1.out ⟨HV.out, SRow.none_ _ _, HF.out, Fit.nil⟩ ⟨HV.out, SRow.none_ _ _, HF.out, Fit.nil⟩).mono ?_
  rintro e w1 ⟨he, hb1⟩
  have he2 : e = .returned (.bool g) := by rw [← HG.out]; exact he
  subst he2
  clear he
  have B1 := Lib.hid (HB.out.trans (hb1.mono HB.out.size))
  clear hb1
  go_wp2
  go_ret
  exact ⟨rfl, B1.out⟩

end Go.Proofs.YtgfbflnhjpbceaaGreatDoor.Span
namespace Go.Proofs.YtgfbflnhjpbceaaGreatDoor.Span
open Go.RowKit Num Ident Semver Prec

theorem stand_zero {a b : Cut} (h : stand a b = 0) : a.kind = b.kind ∧ (ofVer a = true → ofVer b = true → cmpV a.v b.v = 0) := by
 unfold stand at h
 by_cases h1 : ofVer a = true ∧ ofVer b = true ∧ cmpV a.v b.v ≠ 0
 ·rw [if_pos h1] at h; exact absurd h h1.2.2
 ·rw [if_neg h1] at h
  refine ⟨?_, fun h2 h3 => Classical.byContradiction fun h4 => h1 ⟨h2, h3, h4⟩⟩
  rcases ordI_cases a.kind b.kind with ⟨x, y⟩ | ⟨x, y⟩ | ⟨x, y⟩ <;> omega
def Rights (l : List Sp) : Prop := ∀ s ∈ l, right s.lo = true ∧ right s.hi = true
theorem Norm.rights {l : List Sp} (h : Norm l) : Rights l := fun s hs => ⟨((cnt_iff s).1 (h.cnt s hs)).1, ((cnt_iff s).1 (h.cnt s hs)).2.1⟩
theorem right_behind {v : Ver} (h : right (aheadOf v) = true) : right (behindOf v) = true := by
 rw [right_ver (.inl rfl)] at h
 rw [right_ver (.inr rfl)]; exact h
theorem hasOne_iff {s : Sp} {v : Ver} (h : right s.lo = true ∧ right s.hi = true) (hv : right (aheadOf v) = true) : hasOne (aheadOf v) (behindOf v) s = true ↔ inOne s (aheadOf v) := by
 unfold hasOne inOne
 rw [Bool.and_eq_true, decide_eq_true_eq, decide_eq_true_eq, cmpC_right h.1 hv, cmpC_right h.2 (right_behind hv), behind_le]
 have := stand_flip s.hi (behindOf v)
 constructor
 ·rintro ⟨a, b⟩; exact ⟨a, by omega⟩
 ·rintro ⟨a, b⟩; exact ⟨a, by omega⟩
theorem has_iff {l : List Sp} {v : Ver} (h : Rights l) (hv : right (aheadOf v) = true) : l.any (hasOne (aheadOf v) (behindOf v)) = true ↔ inS l (aheadOf v) := by
 rw [List.any_eq_true]
 exact ⟨fun ⟨s, hs, hi⟩ => ⟨s, hs, (hasOne_iff (h s hs) hv).1 hi⟩, fun ⟨s, hs, hi⟩ => ⟨s, hs, (hasOne_iff (h s hs) hv).2 hi⟩⟩
theorem inR_nil (c : Cut) : ¬ inR [] c := fun ⟨s, hs, _⟩ => by cases hs
theorem inS_nil (c : Cut) : ¬ inS [] c := fun ⟨s, hs, _⟩ => by cases hs
theorem inS_one (s : Sp) (c : Cut) : inS [s] c ↔ inOne s c := ⟨fun ⟨x, hx, h⟩ => by rw [List.mem_singleton] at hx; subst hx; exact h, fun h => ⟨s, List.mem_singleton.2 rfl, h⟩⟩
theorem low_ahead (v : Ver) : stand low (aheadOf v) < 0 := by
 rw [stand_kind (by rintro ⟨h, _⟩; exact absurd h (by decide))]; exact (show ordI 0 1 < 0 by decide)
theorem behind_high (v : Ver) : stand (behindOf v) high < 0 := by
 rw [stand_kind (by rintro ⟨_, h⟩; exact absurd h (by decide))]; exact (show ordI 2 3 < 0 by decide)
end Go.Proofs.YtgfbflnhjpbceaaGreatDoor.Span
namespace Go.Proofs.YtgfbflnhjpbceaaGreatDoor.Span
open Go.RowKit Num Ident Semver Prec

def hasV (l : List Sp) (v : Ver) : Bool := l.any (hasOne (aheadOf v) (behindOf v))
theorem hasV_iff {l : List Sp} {v : Ver} (h : Rights l) (hv : right (aheadOf v) = true) : hasV l v = true ↔ inS l (aheadOf v) := has_iff h hv
theorem ahead_in {v : Ver} (hv : right (aheadOf v) = true) : inOne ⟨low, high⟩ (aheadOf v) := ⟨low_le hv, lt_le (ahead_behind v) (le_high (right_behind hv))⟩
end Go.Proofs.YtgfbflnhjpbceaaGreatDoor.Span
