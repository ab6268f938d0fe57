/-
  The normal sets of spans, of what is in one or both, in both, not in one (span.Normal, Union, Meet, Not). Conditions: the slices read as the lists of spans; there aren't too many.
-/
import Derived.Test.YtdbdeadcffpbfaaGreatDoorSpSweepW
import Derived.Test.YtdbdeadcffpbfaaGreatDoorSpConcat
namespace Go.Proofs.YtdbdeadcffpbfaaGreatDoor.Span
open Go.RowKit Num Ident Semver Prec

theorem right_of {l : List RSp} {step : Int} {re : List REdge} (h : re.map REdge.edge = edgesOf (l.map RSp.sp) step) : ∀ e ∈ re, right e.cut.cut = true := fun e he =>
  edgesOf_right (l.map RSp.sp) step e.edge (by rw [← h]; exact List.mem_map_of_mem he)
theorem step_of {l : List RSp} {step : Int} {re : List REdge} (h : re.map REdge.edge = edgesOf (l.map RSp.sp) step) (h1 : -10 ≤ step) (h2 : step ≤ 10) : ∀ e ∈ re, -10 ≤ e.step ∧ e.step ≤ 10 := fun e he => by
  have hm : e.edge ∈ edgesOf (l.map RSp.sp) step := by rw [← h]; exact List.mem_map_of_mem he
  have := edgesOf_step _ _ _ hm
  show -10 ≤ e.edge.step ∧ e.edge.step ≤ 10
  rcases this with h | h <;> rw [h] <;> omega
/-- A set that was made: its slice, its spans in new memory. -/
def SetPost (w : World) (k : Nat) (P : List Sp → Prop) (e : Ending) (w' : World) : Prop :=
  ∃ (A : Option Addr) (n c : Nat) (out : List RSp), e = .returned (.slice A n c) ∧ SpRow w' A n out ∧ n ≤ k ∧ P (out.map RSp.sp) ∧ Below w.heap.size w w'
theorem setPost_of {w1 : World} {m : Int} {re0 : List REdge} {k : Nat} {P : List Sp → Prop} {e : Ending} {w' : World} (h : SweepPost w1 m re0 e w') (hn : re0.length ≤ k)
    (hP : ∀ l : List Edge, l.Perm (re0.map REdge.edge) → (l.Pairwise fun x y => stand x.cut y.cut ≤ 0) → P (sweepL m l)) : SetPost w1 k P e w' := by
  obtain ⟨B, set, out, re, rfl, hp, hs, hq, hB, ho, hc, hl, hb⟩ := h
  obtain ⟨A, c, rfl, _, _, hcell⟩ := own_cells svals_len ho rfl
  refine ⟨A, out.length, c, out, rfl, ⟨rfl, fun s hs => ⟨(hc s hs).1.lies, (hc s hs).2.lies⟩, fun h0 => ?_⟩, Nat.le_trans hl hn, ?_, hb⟩
  · obtain ⟨g, h1, _, h2, _, h3⟩ := hcell h0
    exact ⟨g, 0, h1, h2, h3⟩
  · rw [hq]; exact hP _ (hp.map _) (List.pairwise_map.2 hs)
theorem edges_out {w : World} {l : List RSp} {step : Int} {e : Ending} {w' : World} (h : EdgesPost w l step e w') : ∃ (A : Option Addr) (c : Nat) (re : List REdge), e = .returned (.slice A re.length c) ∧ w'.ownsRow w.heap.size 55 7 (.slice A re.length c) re.length (re.flatMap REdge.vals) ∧ re.map REdge.edge = edgesOf (l.map RSp.sp) step ∧ (∀ e ∈ re, Lies w e.cut) ∧ re.length ≤ 2 * l.length ∧ Below w.heap.size w w' := by
  obtain ⟨v, re, rfl, h1, h2, h3, h4, h5⟩ := h
  obtain ⟨A, c, rfl, _⟩ := own_cells evals_len h1 rfl
  exact ⟨A, c, re, rfl, h1, h2, h3, h4, h5⟩
def NormalOf (l : List Sp) (o : List Sp) : Prop := Norm o ∧ ∀ c, inS o c ↔ inR l c

set_option maxRecDepth 100000 in
set_option maxHeartbeats 1600000 in
theorem normal_any (A : Option Addr) (n c : Nat) (l : List RSp) (w : World) (hr : SpRow w A n l) (hn : n ≤ 5000) :
    Calls Tryz.prog 9 #[.slice A n c] w (SetPost w (2 * n) (NormalOf (l.map RSp.sp))) := by
  have HR := Lib.hid hr
  have HL := Lib.hid hr.1
  clear hr
  go_enter Tryz.func9, Tryz.ntmps9
  go_wp2_with fail
  refine (edges_any A n c l 1 _ HR.out (by omega) (by omega) (by omega)).mono ?_
  intro e w1 h1
  obtain ⟨A1, c1, re, rfl, ho, hm, hl, hk, hb⟩ := edges_out h1
  have HO := Lib.hid ho
  have HM := Lib.hid hm
  have HI := Lib.hid hl
  have HB := Lib.hid hb
  have hk2 : re.length ≤ 2 * n := by rw [HL.out] at hk; omega
  clear ho hm hl hb h1 hk
  go_wp2_with fail
  refine (atLeast_any 1 _).mono ?_
  rintro e w2 ⟨rfl, rfl⟩
  go_wp2_with fail
  refine (sweep_any w _ w.heap.size _ re w1.heap.size 1 (HO.out.alloc _) HI.out (HB.out.alloc HB.out.size _) (Nat.le_refl _) (by simp) (by simp [go_sem]) (fun h => by have := (HO.out.lt _ h).2; omega) (right_of HM.out) (step_of HM.out (by omega) (by omega)) (by omega)).mono ?_
  intro e w3 h3
  have HS := Lib.hid (setPost_of (P := NormalOf (l.map RSp.sp)) h3 hk2 (fun E hp hs => by
    rw [HM.out] at hp
    have hr : ∀ e ∈ E, right e.cut = true := fun e he => edgesOf_right _ _ e (hp.mem_iff.1 he)
    obtain ⟨k1, k2⟩ := sweep_norm (n := 1) (by omega) hs hr (by rw [total_perm hp, edgesOf_total]; omega)
    refine ⟨k1, fun c => (k2 c).trans ?_⟩
    rw [cov_perm hp, edgesOf_cov, ← times_pos]; omega))
  obtain ⟨A3, n3, c3, out, rfl, q1, q2, q3, q4⟩ := HS.out
  clear h3
  go_wp2
  go_ret
  exact HS.out

theorem two_sets {m s1 s2 : Int} (hm : 0 < m) {l1 l2 : List Sp} {E : List Edge} (hp : E.Perm (edgesOf l1 s1 ++ edgesOf l2 s2)) (hs : E.Pairwise fun x y => stand x.cut y.cut ≤ 0) :
    Norm (sweepL m E) ∧ ∀ c, inS (sweepL m E) c ↔ m ≤ s1 * (times l1 c : Int) + s2 * (times l2 c : Int) := by
  have hr : ∀ e ∈ E, right e.cut = true := fun e he => by
    rcases List.mem_append.1 (hp.mem_iff.1 he) with h | h
    · exact edgesOf_right _ _ e h
    · exact edgesOf_right _ _ e h
  obtain ⟨k1, k2⟩ := sweep_norm hm hs hr (by rw [total_perm hp, total_append, edgesOf_total, edgesOf_total]; omega)
  refine ⟨k1, fun c => (k2 c).trans ?_⟩
  rw [cov_perm hp, cov_append, edgesOf_cov, edgesOf_cov]
def UnionOf (a b : List Sp) (o : List Sp) : Prop := Norm o ∧ ∀ c, inS o c ↔ inR a c ∨ inR b c
def MeetOf (a b : List Sp) (o : List Sp) : Prop := Norm o ∧ ∀ c, inS o c ↔ inR a c ∧ inR b c
def NotOf (l : List Sp) (o : List Sp) : Prop := Norm o ∧ ∀ c, inS o c ↔ inOne ⟨low, high⟩ c ∧ ¬ inR l c
theorem union_of {a b : List Sp} {E : List Edge} (hp : E.Perm (edgesOf a 1 ++ edgesOf b 1)) (hs : E.Pairwise fun x y => stand x.cut y.cut ≤ 0) : UnionOf a b (sweepL 1 E) := by
  obtain ⟨h1, h2⟩ := two_sets (m := 1) (by omega) hp hs
  refine ⟨h1, fun c => (h2 c).trans ?_⟩
  rw [← times_pos, ← times_pos]; omega
theorem meet_of {a b na nb : List Sp} (ha : NormalOf a na) (hb : NormalOf b nb) {E : List Edge} (hp : E.Perm (edgesOf na 1 ++ edgesOf nb 1)) (hs : E.Pairwise fun x y => stand x.cut y.cut ≤ 0) : MeetOf a b (sweepL 2 E) := by
  obtain ⟨h1, h2⟩ := two_sets (m := 2) (by omega) hp hs
  refine ⟨h1, fun c => (h2 c).trans ?_⟩
  rw [← ha.2 c, ← hb.2 c, ← ha.1.inR, ← hb.1.inR, ← times_pos, ← times_pos]
  have := ha.1.once c
  have := hb.1.once c
  omega
theorem all_norm : Norm [⟨low, high⟩] := ⟨fun s hs => by rw [List.mem_singleton] at hs; subst hs; exact (cnt_iff _).2 ⟨low_right, high_right, low_high⟩, List.pairwise_singleton _ _⟩
theorem not_of {l : List Sp} {E : List Edge} (hp : E.Perm (edgesOf [⟨low, high⟩] 1 ++ edgesOf l (-1))) (hs : E.Pairwise fun x y => stand x.cut y.cut ≤ 0) : NotOf l (sweepL 1 E) := by
  obtain ⟨h1, h2⟩ := two_sets (m := 1) (by omega) hp hs
  refine ⟨h1, fun c => (h2 c).trans ?_⟩
  have e : inOne ⟨low, high⟩ c ↔ 1 ≤ times [⟨low, high⟩] c := by
    rw [times_pos, all_norm.inR]
    exact ⟨fun h => ⟨_, List.mem_singleton.2 rfl, h⟩, fun ⟨s, hs, h⟩ => by rw [List.mem_singleton] at hs; subst hs; exact h⟩
  rw [e, ← times_pos]
  have := all_norm.once c
  omega
theorem SetPost.mono {w w1 : World} {k : Nat} {P : List Sp → Prop} {e : Ending} {w' : World} (h : SetPost w1 k P e w') (hb : Below w.heap.size w w1) : SetPost w k P e w' := by
  obtain ⟨A, n, c, out, h1, h2, h3, h4, h5⟩ := h
  exact ⟨A, n, c, out, h1, h2, h3, h4, hb.trans (h5.mono hb.size)⟩

set_option maxRecDepth 100000 in
set_option maxHeartbeats 3200000 in
theorem union_any (A : Option Addr) (n c : Nat) (l : List RSp) (B : Option Addr) (p d : Nat) (r : List RSp) (w : World) (hr : SpRow w A n l) (hr2 : SpRow w B p r) (hn : n ≤ 5000) (hp : p ≤ 5000) :
    Calls Tryz.prog 11 #[.slice A n c, .slice B p d] w (SetPost w (2 * n + 2 * p) (UnionOf (l.map RSp.sp) (r.map RSp.sp))) := by
  have HR := Lib.hid hr
  have HL := Lib.hid hr.1
  have HR2 := Lib.hid hr2
  have HL2 := Lib.hid hr2.1
  have HB0 := Lib.hid (Below.refl w.heap.size w)
  clear hr hr2
  go_enter Tryz.func11, Tryz.ntmps11
  go_wp2_with fail
  refine (edges_any _ n _ l 1 _ HR.out (by omega) (by omega) (by omega)).mono ?_
  intro e w1 h1
  obtain ⟨A1, c1, re1, rfl, ho, hm, hl, hk1, hb⟩ := edges_out h1
  have HO1 := Lib.hid ho
  have HM1 := Lib.hid hm
  have HI1 := Lib.hid hl
  have HB1 := Lib.hid (HB0.out.trans (hb.mono HB0.out.size))
  have HC1 := Lib.hid hb
  clear ho hm hl hb h1
  go_wp2_with fail
  refine (edges_any _ p _ r 1 _ (HR2.out.kept HB1.out) (by omega) (by omega) (by omega)).mono ?_
  intro e w2 h2
  obtain ⟨A2, c2, re2, rfl, ho, hm, hl, hk2, hb⟩ := edges_out h2
  have HO2 := Lib.hid ho
  have HM2 := Lib.hid hm
  have HI2 := Lib.hid hl
  have HB2 := Lib.hid (HB1.out.trans (hb.mono HB1.out.size))
  have HC2 := Lib.hid hb
  clear ho hm hl hb h2
  have hka : re1.length ≤ 2 * n := by rw [HL.out] at hk1; omega
  have hkb : re2.length ≤ 2 * p := by rw [HL2.out] at hk2; omega
  have hkk : (re1 ++ re2).length ≤ 2 * n + 2 * p := by rw [List.length_append]; omega
  have AQ := Lib.hid ((Below.refl w2.heap.size w2).alloc (Nat.le_refl _) (.cells #[.slice A1 re1.length c1, .slice A2 re2.length c2] 46))
  have X1 := Lib.hid (own_below HO1.out HC2.out)
  have S1 := Lib.hid ((EdSrc.of_own X1.out).kept AQ.out)
  have S2 := Lib.hid ((EdSrc.of_own HO2.out).kept AQ.out)
  have BQ := Lib.hid (HB2.out.trans (AQ.out.mono HB2.out.size))
  have IQ : Hid (∀ e ∈ re1 ++ re2, Lies (w2.alloc (.cells #[.slice A1 re1.length c1, .slice A2 re2.length c2] 46)) e.cut) := fun e he => by
    rcases List.mem_append.1 he with he | he
    · exact (((HI1.out e he).kept HC1.out).kept HC2.out).kept AQ.out
    · exact ((HI2.out e he).kept HC2.out).kept AQ.out
  have HMM := Lib.hid ((List.map_append (f := REdge.edge) (l₁ := re1) (l₂ := re2)).trans (congr (congrArg _ HM1.out) HM2.out))
  have HRR : Hid (∀ e ∈ re1 ++ re2, right e.cut.cut = true) := fun e he => (List.mem_append.1 he).elim (right_of HM1.out e) (right_of HM2.out e)
  have HST : Hid (∀ e ∈ re1 ++ re2, -10 ≤ e.step ∧ e.step ≤ 10) := fun e he => (List.mem_append.1 he).elim (step_of HM1.out (by omega) (by omega) e) (step_of HM2.out (by omega) (by omega) e)
  go_wp2_with fail
  refine (concat_any w2.heap.size _ _ re1 re2 _ (by simp) (by simp [go_sem]) (by simp [go_sem]) S1.out S2.out (by omega) (by omega)).mono ?_
  rintro e w8 ⟨v8, rfl, ho8, hb8⟩
  generalize re1 ++ re2 = rr at ho8 hkk IQ HMM HRR HST
  obtain ⟨A8, c8, rfl, _⟩ := own_cells evals_len ho8 rfl
  have O8 := Lib.hid ho8
  have B8 := Lib.hid hb8
  clear ho8 hb8
  generalize (w2.alloc (.cells #[.slice A1 re1.length c1, .slice A2 re2.length c2] 46)) = WQ at BQ IQ O8 B8
  go_wp2_with fail
  refine (atLeast_any 1 _).mono ?_
  rintro e w9 ⟨rfl, rfl⟩
  go_wp2_with fail
  refine (sweep_any WQ _ WQ.heap.size _ rr w8.heap.size 1 (O8.out.alloc _) IQ.out (B8.out.alloc B8.out.size _) (Nat.le_refl _) (by simp) (by simp [go_sem]) (fun h => by have := (O8.out.lt _ h).2; omega) HRR.out HST.out (by omega)).mono ?_
  intro e wz hz
  have HS := Lib.hid ((setPost_of (P := UnionOf (l.map RSp.sp) (r.map RSp.sp)) hz hkk (fun E hp hs => by
    rw [HMM.out] at hp
    exact union_of hp hs)).mono BQ.out)
  obtain ⟨A3, n3, c3, out, rfl, q1, q2, q3, q4⟩ := HS.out
  clear hz
  go_wp2
  go_ret
  exact HS.out

set_option maxRecDepth 100000 in
set_option maxHeartbeats 3200000 in
theorem meet_any (A : Option Addr) (n c : Nat) (l : List RSp) (B : Option Addr) (p d : Nat) (r : List RSp) (w : World) (hr : SpRow w A n l) (hr2 : SpRow w B p r) (hn : n ≤ 5000) (hp : p ≤ 5000) :
    Calls Tryz.prog 12 #[.slice A n c, .slice B p d] w (SetPost w (4 * n + 4 * p) (MeetOf (l.map RSp.sp) (r.map RSp.sp))) := by
  have HR := Lib.hid hr
  have HL := Lib.hid hr.1
  have HRB := Lib.hid hr2
  have HLB := Lib.hid hr2.1
  have HB0 := Lib.hid (Below.refl w.heap.size w)
  clear hr hr2
  go_enter Tryz.func12, Tryz.ntmps12
  go_wp2_with fail
  refine (normal_any _ n _ l _ HR.out (by omega)).mono ?_
  rintro e w1 ⟨NA1, nn1, nc1, out1, rfl, hr1, hn1, hq1, hb⟩
  have HR1 := Lib.hid hr1
  have HL1 := Lib.hid hr1.1
  have HQ1 := Lib.hid hq1
  have HB1 := Lib.hid (HB0.out.trans (hb.mono HB0.out.size))
  clear hr1 hq1 hb
  go_wp2_with fail
  refine (edges_any _ nn1 _ out1 1 _ HR1.out (by omega) (by omega) (by omega)).mono ?_
  intro e w2 h2
  obtain ⟨A2, c2, re2, rfl, ho, hm, hl, hk2, hb⟩ := edges_out h2
  have HO2 := Lib.hid ho
  have HM2 := Lib.hid hm
  have HI2 := Lib.hid hl
  have HB2 := Lib.hid (HB1.out.trans (hb.mono HB1.out.size))
  have HC2 := Lib.hid hb
  clear ho hm hl hb h2
  go_wp2_with fail
  refine (normal_any _ p _ r _ (HRB.out.kept HB2.out) (by omega)).mono ?_
  rintro e w3 ⟨NA3, nn3, nc3, out3, rfl, hr3, hn3, hq3, hb⟩
  have HR3 := Lib.hid hr3
  have HL3 := Lib.hid hr3.1
  have HQ3 := Lib.hid hq3
  have HB3 := Lib.hid (HB2.out.trans (hb.mono HB2.out.size))
  replace HO2 := Lib.hid (own_below HO2.out hb)
  replace HC2 := Lib.hid (HC2.out.trans (hb.mono HC2.out.size))
  clear hr3 hq3 hb
  go_wp2_with fail
  refine (edges_any _ nn3 _ out3 1 _ HR3.out (by omega) (by omega) (by omega)).mono ?_
  intro e w4 h4
  obtain ⟨A4, c4, re4, rfl, ho, hm, hl, hk4, hb⟩ := edges_out h4
  have HO4 := Lib.hid ho
  have HM4 := Lib.hid hm
  have HI4 := Lib.hid hl
  have HB4 := Lib.hid (HB3.out.trans (hb.mono HB3.out.size))
  have HC4 := Lib.hid hb
  clear ho hm hl hb h4
  have hka : re2.length ≤ 4 * n := by rw [HL1.out] at hk2; omega
  have hkb : re4.length ≤ 4 * p := by rw [HL3.out] at hk4; omega
  have hkk : (re2 ++ re4).length ≤ 4 * n + 4 * p := by rw [List.length_append]; omega
  have AQ := Lib.hid ((Below.refl w4.heap.size w4).alloc (Nat.le_refl _) (.cells #[.slice A2 re2.length c2, .slice A4 re4.length c4] 46))
  have X2 := Lib.hid (own_below HO2.out HC4.out)
  have S1 := Lib.hid ((EdSrc.of_own X2.out).kept AQ.out)
  have S2 := Lib.hid ((EdSrc.of_own HO4.out).kept AQ.out)
  have BQ := Lib.hid (HB4.out.trans (AQ.out.mono HB4.out.size))
  have IQ : Hid (∀ e ∈ re2 ++ re4, Lies (w4.alloc (.cells #[.slice A2 re2.length c2, .slice A4 re4.length c4] 46)) e.cut) := fun e he => by
    rcases List.mem_append.1 he with he | he
    · exact (((HI2.out e he).kept HC2.out).kept HC4.out).kept AQ.out
    · exact ((HI4.out e he).kept HC4.out).kept AQ.out
  have HMM := Lib.hid ((List.map_append (f := REdge.edge) (l₁ := re2) (l₂ := re4)).trans (congr (congrArg _ HM2.out) HM4.out))
  have HRR : Hid (∀ e ∈ re2 ++ re4, right e.cut.cut = true) := fun e he => (List.mem_append.1 he).elim (right_of HM2.out e) (right_of HM4.out e)
  have HST : Hid (∀ e ∈ re2 ++ re4, -10 ≤ e.step ∧ e.step ≤ 10) := fun e he => (List.mem_append.1 he).elim (step_of HM2.out (by omega) (by omega) e) (step_of HM4.out (by omega) (by omega) e)
  go_wp2_with fail
  refine (concat_any w4.heap.size _ _ re2 re4 _ (by simp) (by simp [go_sem]) (by simp [go_sem]) S1.out S2.out (by omega) (by omega)).mono ?_
  rintro e w8 ⟨v8, rfl, ho8, hb8⟩
  generalize re2 ++ re4 = rr at ho8 hkk IQ HMM HRR HST
  obtain ⟨A8, c8, rfl, _⟩ := own_cells evals_len ho8 rfl
  have O8 := Lib.hid ho8
  have B8 := Lib.hid hb8
  clear ho8 hb8
  generalize (w4.alloc (.cells #[.slice A2 re2.length c2, .slice A4 re4.length c4] 46)) = WQ at BQ IQ O8 B8
  go_wp2_with fail
  refine (atLeast_any 2 _).mono ?_
  rintro e w9 ⟨rfl, rfl⟩
  go_wp2_with fail
  refine (sweep_any WQ _ WQ.heap.size _ rr w8.heap.size 2 (O8.out.alloc _) IQ.out (B8.out.alloc B8.out.size _) (Nat.le_refl _) (by simp) (by simp [go_sem]) (fun h => by have := (O8.out.lt _ h).2; omega) HRR.out HST.out (by omega)).mono ?_
  intro e wz hz
  have HS := Lib.hid ((setPost_of (P := MeetOf (l.map RSp.sp) (r.map RSp.sp)) hz hkk (fun E hp hs => by
    rw [HMM.out] at hp
    exact meet_of HQ1.out HQ3.out hp hs)).mono BQ.out)
  obtain ⟨A3, n3, c3, out, rfl, q1, q2, q3, q4⟩ := HS.out
  clear hz
  go_wp2
  go_ret
  exact HS.out

/-- A new block of one span. -/
theorem SpRow.one (w : World) (s : RSp) (h : LiesS w s) : SpRow (w.alloc (.cells s.vals.toArray 37)) (some ⟨w.heap.size, 0, none⟩) 1 [s] := by
  refine ⟨rfl, fun x hx => ?_, fun _ => ⟨w.heap.size, 0, rfl, by simp, fun j hj i v hv => ?_⟩⟩
  · rw [List.mem_singleton] at hx; subst hx; exact h.kept ((Below.refl _ _).alloc (Nat.le_refl _) _)
  · obtain rfl : j = 0 := by omega
    have := news_new w s.vals 37 i v hv
    rw [add_none] at this
    simpa using this

set_option maxRecDepth 100000 in
set_option maxHeartbeats 3200000 in
theorem not_any (A : Option Addr) (n c : Nat) (l : List RSp) (w : World) (hr : SpRow w A n l) (hn : n ≤ 5000) :
    Calls Tryz.prog 13 #[.slice A n c] w (SetPost w (2 + 2 * n) (NotOf (l.map RSp.sp))) := by
  have HB0 : Hid (Below w.heap.size w (w.alloc (.cells #[.int .i64 0, .int .u64 0, .int .u64 0, .int .u64 0, .slice none 0 0, .slice none 0 0, .int .i64 3, .int .u64 0, .int .u64 0, .int .u64 0, .slice none 0 0, .slice none 0 0] 37))) := (Below.refl _ _).alloc (Nat.le_refl _) _
  have HR0 : Hid (SpRow (w.alloc (.cells #[.int .i64 0, .int .u64 0, .int .u64 0, .int .u64 0, .slice none 0 0, .slice none 0 0, .int .i64 3, .int .u64 0, .int .u64 0, .int .u64 0, .slice none 0 0, .slice none 0 0] 37)) (some ⟨w.heap.size, 0, none⟩) 1 [⟨rlow, rhigh⟩]) := SpRow.one w ⟨rlow, rhigh⟩ ⟨Lies.low _, Lies.high _⟩
  have HR := Lib.hid (hr.kept HB0.out)
  have HL := Lib.hid hr.1
  clear hr
  go_enter Tryz.func13, Tryz.ntmps13
  go_upto_region 2 with (fail)
  generalize w.alloc (.cells #[.int .i64 0, .int .u64 0, .int .u64 0, .int .u64 0, .slice none 0 0, .slice none 0 0, .int .i64 3, .int .u64 0, .int .u64 0, .int .u64 0, .slice none 0 0, .slice none 0 0] 37) = w0 at HB0 HR0 HR ⊢
  go_wp2_with fail
  refine (edges_any _ 1 _ [⟨rlow, rhigh⟩] 1 _ HR0.out (by omega) (by omega) (by omega)).mono ?_
  intro e w1 h1
  obtain ⟨A1, c1, re1, rfl, ho, hm, hl, hk1, hb⟩ := edges_out h1
  have HO1 := Lib.hid ho
  have HM1 := Lib.hid hm
  have HI1 := Lib.hid hl
  have HB1 := Lib.hid (HB0.out.trans (hb.mono HB0.out.size))
  have HC1 := Lib.hid hb
  clear ho hm hl hb h1
  go_wp2_with fail
  refine (edges_any _ n _ l (-1) _ (HR.out.kept HC1.out) (by omega) (by omega) (by omega)).mono ?_
  intro e w2 h2
  obtain ⟨A2, c2, re2, rfl, ho, hm, hl, hk2, hb⟩ := edges_out h2
  have HO2 := Lib.hid ho
  have HM2 := Lib.hid hm
  have HI2 := Lib.hid hl
  have HB2 := Lib.hid (HB1.out.trans (hb.mono HB1.out.size))
  have HC2 := Lib.hid hb
  clear ho hm hl hb h2
  have hka : re1.length ≤ 2 := by simpa using hk1
  have hkb : re2.length ≤ 2 * n := by rw [HL.out] at hk2; omega
  have hkk : (re1 ++ re2).length ≤ 2 + 2 * n := by rw [List.length_append]; omega
  have AQ := Lib.hid ((Below.refl w2.heap.size w2).alloc (Nat.le_refl _) (.cells #[.slice A1 re1.length c1, .slice A2 re2.length c2] 46))
  have X1 := Lib.hid (own_below HO1.out HC2.out)
  have S1 := Lib.hid ((EdSrc.of_own X1.out).kept AQ.out)
  have S2 := Lib.hid ((EdSrc.of_own HO2.out).kept AQ.out)
  have BQ := Lib.hid (HB2.out.trans (AQ.out.mono HB2.out.size))
  have IQ : Hid (∀ e ∈ re1 ++ re2, Lies (w2.alloc (.cells #[.slice A1 re1.length c1, .slice A2 re2.length c2] 46)) e.cut) := fun e he => by
    rcases List.mem_append.1 he with he | he
    · exact (((HI1.out e he).kept HC1.out).kept HC2.out).kept AQ.out
    · exact ((HI2.out e he).kept HC2.out).kept AQ.out
  have HMM := Lib.hid ((List.map_append (f := REdge.edge) (l₁ := re1) (l₂ := re2)).trans (congr (congrArg _ HM1.out) HM2.out))
  have HRR : Hid (∀ e ∈ re1 ++ re2, right e.cut.cut = true) := fun e he => (List.mem_append.1 he).elim (right_of HM1.out e) (right_of HM2.out e)
  have HST : Hid (∀ e ∈ re1 ++ re2, -10 ≤ e.step ∧ e.step ≤ 10) := fun e he => (List.mem_append.1 he).elim (step_of HM1.out (by omega) (by omega) e) (step_of HM2.out (by omega) (by omega) e)
  go_wp2_with fail
  refine (concat_any w2.heap.size _ _ re1 re2 _ (by simp) (by simp [go_sem]) (by simp [go_sem]) S1.out S2.out (by omega) (by omega)).mono ?_
  rintro e w8 ⟨v8, rfl, ho8, hb8⟩
  generalize re1 ++ re2 = rr at ho8 hkk IQ HMM HRR HST
  obtain ⟨A8, c8, rfl, _⟩ := own_cells evals_len ho8 rfl
  have O8 := Lib.hid ho8
  have B8 := Lib.hid hb8
  clear ho8 hb8
  generalize (w2.alloc (.cells #[.slice A1 re1.length c1, .slice A2 re2.length c2] 46)) = WQ at BQ IQ O8 B8
  go_wp2_with fail
  refine (atLeast_any 1 _).mono ?_
  rintro e w9 ⟨rfl, rfl⟩
  go_wp2_with fail
  refine (sweep_any WQ _ WQ.heap.size _ rr w8.heap.size 1 (O8.out.alloc _) IQ.out (B8.out.alloc B8.out.size _) (Nat.le_refl _) (by simp) (by simp [go_sem]) (fun h => by have := (O8.out.lt _ h).2; omega) HRR.out HST.out (by omega)).mono ?_
  intro e wz hz
  have HS := Lib.hid ((setPost_of (P := NotOf (l.map RSp.sp)) hz hkk (fun E hp hs => by
    rw [HMM.out] at hp
    exact not_of hp hs)).mono BQ.out)
  obtain ⟨A3, n3, c3, out, rfl, q1, q2, q3, q4⟩ := HS.out
  clear hz
  go_wp2
  go_ret
  exact HS.out

end Go.Proofs.YtdbdeadcffpbfaaGreatDoor.Span
