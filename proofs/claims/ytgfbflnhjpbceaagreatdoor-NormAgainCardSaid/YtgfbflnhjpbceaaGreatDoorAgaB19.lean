/-
  What the theorem of the last text needs of these: SpSweepW, SpConcat. Conditions: as each theorem states.
-/
import Derived.Test.YtgfbflnhjpbceaaGreatDoorAgaB1
import Derived.Test.YtgfbflnhjpbceaaGreatDoorAgaB16
import Derived.Test.YtgfbflnhjpbceaaGreatDoorAgaB18
import Derived.Test.YtgfbflnhjpbceaaGreatDoorShelfGrow
set_option maxRecDepth 100000
set_option maxHeartbeats 25600000
namespace Go.Proofs.YtgfbflnhjpbceaaGreatDoor.Span
open Go.RowKit Num Ident Semver Prec

theorem sweep_any (w1 w : World) (base : Nat) (v : Value) (re : List REdge) (mb : Nat) (m : Int) (hown : w.ownsRow base 111 7 v re.length (re.flatMap REdge.vals)) (hl : ∀ e ∈ re, Lies w1 e.cut) (hb : Below w1.heap.size w1 w) (hbase : w1.heap.size ≤ base) (hmb : mb < w.heap.size) (hc : w.cell? ⟨mb, 0, none⟩ = some (.int .i64 m)) (hne : v.ownBlock ≠ some mb)
  (hr : ∀ e ∈ re, right e.cut.cut = true) (hst : ∀ e ∈ re, -10 ≤ e.step ∧ e.step ≤ 10) (hn : re.length ≤ 100000) :
  Calls Tryz.prog 46 #[v, .func (.func 86) #[] #[.pointer (some ⟨mb, 0, none⟩)]] w (SweepPost w1 m re) := by
 have HS := Lib.hid (sort_any w1 w base v re hown hl hb hbase (by omega))
 have HOW := Lib.hid hown
 have HL := Lib.hid hl
 have HB := Lib.hid hb
 have HR := Lib.hid hr
 have HT := Lib.hid hst
 have HC := Lib.hid hc
 have HN := Lib.hid hne
 obtain ⟨A, c, rfl, _, _, _⟩ := own_cells evals_len hown rfl
 clear hown hl hb hr hst hc hne
 go_enter Tryz.func46, Tryz.ntmps46
 go_wp2
 refine wp_two (SwJ0 w1 re A re.length c mb m) (SwJ1 w1 re A re.length c mb m) (SwM0 re.length) (SwM1 re.length) rfl rfl ?_ ?_ ?_
 ·intro mm
  refine SwJ1.out ?_
  intro W ws rs i T set out lo bc cu was u11 u14 u15 u16 u17 u18 u19 u20 u21 u22 u23 u24 u25 u26 u27 u28 u29 u30 u31 u32 u33 u34 u35 u36 u37 u38 u39 u40 u41 u42 u43 u44 u45 u46 u47 u48 u49 u50 u51 u52 u53 u54 u55 u56 u57 u58 u59 u60 u61 u62 u63 u64 u65 u66 u67 u68 u69 u70 u71 u72 u73 hfix hat hlt hcb htg hcl0 hcr0 heq hmm
  have hmm2 : mm = 2 * (re.length - i) := by rw [← hmm]; simp [SwM1, intOf]
  clear hmm
  have HF := Lib.hid hfix
  have HA := Lib.hid hat
  have HK := Lib.hid hcb
  have HTG := Lib.hid htg
  have HCL := Lib.hid hcl0
  have HCR := Lib.hid hcr0
  have HE := Lib.hid heq
  have hsm := hfix.small
  have hlo := hat.lo10
  have hhi := hat.hi10
  have hol := hat.len
  have hzl := hat.lob.1
  have hzc := hcb.1
  clear hfix hat heq hcb hcl0 hcr0 htg
  obtain ⟨g, rfl, hgl, hcl⟩ := HF.out.cells (by omega)
  have hgl2 : g < W.heap.size := Nat.lt_of_lt_of_le hgl HA.out.bel.size
  have hml : mb < W.heap.size := Nat.lt_of_lt_of_le HF.out.mbl HA.out.bel.size
  have HMC : Hid (W.cell? ⟨mb, 0, none⟩ = some (.int .i64 m)) := (HA.out.bel.cell (p := ⟨mb, 0, none⟩) HF.out.mbl).trans HF.out.mbc
  have HCE := Lib.hid (fun j hj q u hu => (HA.out.bel.cell (p := ⟨g, 0 + j * 7 + q, none⟩) hgl).trans (hcl j hj q u hu))
  clear hcl
  obtain ⟨z0, z1, z2, z3, z4, z5, z6⟩ := ed_cells (w := W) (g := g) (n := re.length) (l := rs) HCE.out hlt
  have HD := Lib.hid (drop_ed rs i (by rw [HF.out.len]; exact hlt))
  have hst := HF.out.step _ (getE_mem (l := rs) (k := i) (by rw [HF.out.len]; exact hlt))
  obtain ⟨hst1, hst2⟩ := hst
  generalize rs.getD i default = e1 at z0 z1 z2 z3 z4 z5 z6 HD hst1 hst2
  have HE1 : Hid (sweepL m (rs.map REdge.edge) = out.map RSp.sp ++ go m cu.cut was T lo.cut (e1.edge :: (rs.drop (i + 1)).map REdge.edge)) := by rw [← HD.out]; exact HE.out
  clear HE HD
  by_cases hnx : i + 1 < re.length
  ·obtain ⟨y0', y1', y2', y3', y4', y5', y6'⟩ := ed_cells (w := W) (g := g) (n := re.length) (l := rs) HCE.out hnx
   have HX2 : Hid (Lies w1 (rs.getD (i + 1) default).cut) := HF.out.lies _ (getE_mem (by rw [HF.out.len]; exact hnx))
   have HD2 := Lib.hid (drop_ed rs (i + 1) (by rw [HF.out.len]; exact hnx))
   generalize rs.getD (i + 1) default = e2 at y0' y1' y2' y3' y4' y5' y6' HX2 HD2
   obtain ⟨_, _, x0, x1, x2, x3, x4, x5⟩ := HK.out
   go_upto_region 10 with (fail)
   have hd1 : decide ((i : Int) + 1 < (re.length : Int)) = true := decide_eq_true (by omega)
   have hd2 : (i : Int) + 1 < (re.length : Int) := by omega
   have hd3 : ((i : Int) + 1).toNat = i + 1 := by omega
   have hd4 : 0 ≤ (i : Int) + 1 := by omega
   go_still_tail 11, (by kernel_rfl)
   change wpList _ _ _ _ _ W.drew
   have HA2 := Lib.hid (HA.out.kept (Below.refl W.heap.size W).drew)
   have HK2 := Lib.hid HK.out.drew
   have HTG2 : Hid (Tag W.drew bc) := HTG.out
   have HMC2 : Hid (W.drew.cell? ⟨mb, 0, none⟩ = some (.int .i64 m)) := HMC.out
   have hw2 : W.drew.heap.size = W.heap.size := rfl
   clear z0 z1 z2 z3 z4 z5 z6 x0 x1 x2 x3 x4 x5 y0' y1' y2' y3' y4' y5' y6' hd1 hd2 hd3 hd4 HCE
   generalize W.drew = W2 at HA2 HK2 HTG2 HMC2 hw2 ⊢
   have HO2 := Lib.hid (HF.out.old.trans (HA2.out.bel.mono HF.out.old.size))
   rw [← hw2] at hml hzl hzc
   clear HA HK HTG HMC hw2 hgl2
   go_wp2_with fail
   refine (stand_any cu e2.cut _ (HCL.out.kept HO2.out) (HX2.out.kept HO2.out)).mono ?_
   rintro e Wc ⟨rfl, hb3⟩
   have HA1 := Lib.hid ((HA2.out.kept hb3).step hst1 hst2 hlt)
   have HK1 := Lib.hid (HK2.out.kept hb3 hzc)
   have HTG1 := Lib.hid (HTG2.out.kept hb3 hzc)
   have HMC1 : Hid (Wc.cell? ⟨mb, 0, none⟩ = some (.int .i64 m)) := (hb3.cell (p := ⟨mb, 0, none⟩) hml).trans HMC2.out
   have HO1 := Lib.hid (HO2.out.trans (hb3.mono HO2.out.size))
   replace hzl := Nat.lt_of_lt_of_le hzl hb3.size
   replace hzc := Nat.lt_of_lt_of_le hzc hb3.size
   clear hb3 HA2 HK2 HTG2 HMC2 HO2 hml
   obtain ⟨st, hst⟩ : ∃ st, stand cu.cut e2.cut.cut = st := ⟨_, rfl⟩
   rw [hst]
   have HST := Lib.hid hst
   clear hst
   by_cases hz : st = 0
   ·have HE2 : Hid (sweepL m (rs.map REdge.edge) = out.map RSp.sp ++ go m cu.cut was (T + e1.step) lo.cut ((rs.drop (i + 1)).map REdge.edge)) := by
     unfold Hid
     rw [HE1.out, HD2.out, go_like (show stand cu.cut e2.edge.cut = 0 from HST.out.trans hz)]; rfl
    subst hz
    clear HE1
    go_wp2
    go_step3
    rw [show ((i : Int) + 1) = ((i + 1 : Nat) : Int) from rfl]
    exact .inr ⟨rfl, SwJ1.mk ws rs (i + 1) (T + e1.step) set out lo bc cu was HF.out HA1.out hnx HK1.out HTG1.out HCL.out HCR.out HE2.out rfl, by rw [hmm2]; simp [SwM1, intOf]; omega⟩
   ·have hn1 : (st == 0) = false := by simp [hz]
    have HEN : Hid (Ends cu.cut ((rs.drop (i + 1)).map REdge.edge)) := .inr ⟨_, _, HD2.out, fun h => hz (HST.out.symm.trans h)⟩
    clear hz HD2
    go_wp2_with fail
    refine (in_any (T + e1.step) m mb _ HMC1.out).mono ?_
    rintro e w' ⟨rfl, rfl⟩
    clear HMC1
    obtain ⟨_, hf, x0, x1, x2, x3, x4, x5⟩ := HA1.out.lob
    obtain ⟨_, _, y0, y1, y2, y3, y4, y5⟩ := HK1.out
    by_cases hmt : m ≤ T + e1.step
    ·rw [decide_eq_true hmt]
     cases was
     ·have HE2 : Hid (sweepL m (rs.map REdge.edge) = out.map RSp.sp ++ nextL m (T + e1.step) cu.cut ((rs.drop (i + 1)).map REdge.edge)) := by
       unfold Hid
       rw [HE1.out, go_open_ HEN.out hmt]; rfl
      have HA3 := Lib.hid (HA1.out.setlo cu HCL.out HCR.out)
      clear HE1 hmt
      go_wp2
      go_step3
      rw [show ((i : Int) + 1) = ((i + 1 : Nat) : Int) from rfl]
      exact .inl ⟨rfl, SwJ0.mk ws rs (i + 1) (T + e1.step) set out cu HF.out HA3.out HE2.out rfl, by rw [hmm2]; simp [SwM0, intOf]; omega⟩
     ·have HE2 : Hid (sweepL m (rs.map REdge.edge) = out.map RSp.sp ++ nextL m (T + e1.step) lo.cut ((rs.drop (i + 1)).map REdge.edge)) := by
       unfold Hid
       rw [HE1.out, go_same HEN.out (decide_eq_true hmt)]; rfl
      clear HE1 hmt
      go_wp2
      go_step3
      rw [show ((i : Int) + 1) = ((i + 1 : Nat) : Int) from rfl]
      exact .inl ⟨rfl, SwJ0.mk ws rs (i + 1) (T + e1.step) set out lo HF.out HA1.out HE2.out rfl, by rw [hmm2]; simp [SwM0, intOf]; omega⟩
    ·rw [decide_eq_false hmt]
     cases was
     ·have HE2 : Hid (sweepL m (rs.map REdge.edge) = out.map RSp.sp ++ nextL m (T + e1.step) lo.cut ((rs.drop (i + 1)).map REdge.edge)) := by
       unfold Hid
       rw [HE1.out, go_same HEN.out (decide_eq_false hmt)]; rfl
      clear HE1 hmt
      go_wp2
      go_step3
      rw [show ((i : Int) + 1) = ((i + 1 : Nat) : Int) from rfl]
      exact .inl ⟨rfl, SwJ0.mk ws rs (i + 1) (T + e1.step) set out lo HF.out HA1.out HE2.out rfl, by rw [hmm2]; simp [SwM0, intOf]; omega⟩
     ·have HE2 : Hid (sweepL m (rs.map REdge.edge) = out.map RSp.sp ++ (⟨lo.cut, cu.cut⟩ :: nextL m (T + e1.step) lo.cut ((rs.drop (i + 1)).map REdge.edge))) := by
       unfold Hid
       rw [HE1.out, go_shut HEN.out hmt]; rfl
      clear HE1 hmt
      go_upto_region 15 with (fail)
      have B0 := Lib.hid ((Below.refl Wc.heap.size Wc).drew)
      refine wp_region_held_drew (S := fun w' => Below (ws.heap.size + 1) Wc w' ∧ At6B w' bc (.int .i64 cu.kind) (.int .u64 (cu.v.a : Int)) (.int .u64 (cu.v.b : Int)) (.int .u64 (cu.v.c : Int)) (.slice cu.A cu.v.pre.length cu.c) (.slice cu.B cu.v.build.length cu.d)) (by kernel_rfl) ⟨B0.out.mono hzl, HK1.out.drew⟩ (fun hHeld => ?_)
      refine tk 0 rfl set ?_
      refine tk 1 rfl (.agg #[.int .i64 lo.kind, .int .u64 (lo.v.a : Int), .int .u64 (lo.v.b : Int), .int .u64 (lo.v.c : Int), .slice lo.A lo.v.pre.length lo.c, .slice lo.B lo.v.build.length lo.d]) ?_ fun w' hS' => by have q0 := (hS'.1.cell (p := ⟨ws.heap.size, 0, none⟩) (Nat.lt_succ_self _)).trans x0; have q1 := (hS'.1.cell (p := ⟨ws.heap.size, 1, none⟩) (Nat.lt_succ_self _)).trans x1; have q2 := (hS'.1.cell (p := ⟨ws.heap.size, 2, none⟩) (Nat.lt_succ_self _)).trans x2; have q3 := (hS'.1.cell (p := ⟨ws.heap.size, 3, none⟩) (Nat.lt_succ_self _)).trans x3; have q4 := (hS'.1.cell (p := ⟨ws.heap.size, 4, none⟩) (Nat.lt_succ_self _)).trans x4; have q5 := (hS'.1.cell (p := ⟨ws.heap.size, 5, none⟩) (Nat.lt_succ_self _)).trans x5; go_simp
      refine tk 3 rfl (.agg #[.int .i64 cu.kind, .int .u64 (cu.v.a : Int), .int .u64 (cu.v.b : Int), .int .u64 (cu.v.c : Int), .slice cu.A cu.v.pre.length cu.c, .slice cu.B cu.v.build.length cu.d]) ?_ fun w' hS' => by obtain ⟨_, _, _, q0, q1, q2, q3, q4, q5⟩ := hS'; go_simp
      refine cl 2 rfl fun K hK => ?_
      go_simp
      refine (copied_any lo _ ((HA1.out.lies.kept HO1.out).kept B0.out) (Nat.le_trans HA1.out.few (by omega))).mono ?_
      rintro e w5 ⟨lo', rfl, hlo5, ho5, hb5⟩
      have B5 := Lib.hid (B0.out.trans (hb5.mono B0.out.size))
      have O5 := Lib.hid (ho5.mono (Nat.le_trans hzl B0.out.size))
      have E5 := Lib.hid hlo5
      clear ho5 hb5 hlo5 hHeld
      refine hK.out _ _ ⟨B5.out.mono hzl, HK1.out.kept B5.out hzc⟩ (fun hHeld => ?_)
      clear hK K
      try simp only [Act.put, p1, p2, p3]
      refine cl 4 rfl fun K hK => ?_
      go_simp
      refine (copied_any cu _ ((HCL.out.kept HO1.out).kept B5.out) (Nat.le_trans (right_few HCR.out).1 (by omega))).mono ?_
      rintro e w6 ⟨cu', rfl, hcu6, ho6, hb6⟩
      have B6 := Lib.hid (B5.out.trans (hb6.mono B5.out.size))
      have O6 := Lib.hid (ho6.mono (Nat.le_trans hzl B5.out.size))
      have P6 := Lib.hid (O5.out.kept hb6)
      have E6 := Lib.hid hcu6
      clear ho6 hb6 hcu6 hHeld
      refine hK.out _ _ ⟨B6.out.mono hzl, HK1.out.kept B6.out hzc⟩ (fun hHeld => ?_)
      clear hK K
      try simp only [Act.put, p1, p2, p3]
      refine tk 5 rfl (.agg #[.int .i64 lo'.kind, .int .u64 (lo'.v.a : Int), .int .u64 (lo'.v.b : Int), .int .u64 (lo'.v.c : Int), .slice lo'.A lo'.v.pre.length lo'.c, .slice lo'.B lo'.v.build.length lo'.d, .int .i64 cu'.kind, .int .u64 (cu'.v.a : Int), .int .u64 (cu'.v.b : Int), .int .u64 (cu'.v.c : Int), .slice cu'.A cu'.v.pre.length cu'.c, .slice cu'.B cu'.v.build.length cu'.d]) ?_
      have A7 := Lib.hid ((Below.refl w6.heap.size w6).alloc (Nat.le_refl _) (.cells #[.int .i64 lo'.kind, .int .u64 (lo'.v.a : Int), .int .u64 (lo'.v.b : Int), .int .u64 (lo'.v.c : Int), .slice lo'.A lo'.v.pre.length lo'.c, .slice lo'.B lo'.v.build.length lo'.d, .int .i64 cu'.kind, .int .u64 (cu'.v.a : Int), .int .u64 (cu'.v.b : Int), .int .u64 (cu'.v.c : Int), .slice cu'.A cu'.v.pre.length cu'.c, .slice cu'.B cu'.v.build.length cu'.d] 43))
      have B7 := Lib.hid (B6.out.trans (A7.out.mono B6.out.size))
      refine cl 6 rfl fun K hK => ?_
      go_simp
      refine hK.out _ _ ⟨B7.out.mono hzl, HK1.out.kept B7.out hzc⟩ (fun hHeld => ?_)
      clear hK K
      try simp only [Act.put, p1, p2, p3]
      obtain ⟨v8, w8, hrun, ho8, hg8⟩ := run_append_sp (w6.alloc (.cells #[.int .i64 lo'.kind, .int .u64 (lo'.v.a : Int), .int .u64 (lo'.v.b : Int), .int .u64 (lo'.v.c : Int), .slice lo'.A lo'.v.pre.length lo'.c, .slice lo'.B lo'.v.build.length lo'.d, .int .i64 cu'.kind, .int .u64 (cu'.v.a : Int), .int .u64 (cu'.v.b : Int), .int .u64 (cu'.v.c : Int), .slice cu'.A cu'.v.pre.length cu'.c, .slice cu'.B cu'.v.build.length cu'.d] 43)) 31 (ws.heap.size + 1) set out.length out (own_below HA1.out.own B7.out) ⟨w6.heap.size, 0, none⟩ 1 1 [⟨lo', cu'⟩] rfl (news_new w6 _ _) (by omega) (Nat.le_trans hzl B7.out.size)
      have HA8 := Lib.hid (HA1.out.more (s := ⟨lo', cu'⟩) B7.out (P6.out.kept A7.out) (O6.out.kept A7.out) hg8 ho8 (by omega))
      have K8 : Hid (At6B w8 bc (.int .i64 cu.kind) (.int .u64 (cu.v.a : Int)) (.int .u64 (cu.v.b : Int)) (.int .u64 (cu.v.c : Int)) (.slice cu.A cu.v.pre.length cu.c) (.slice cu.B cu.v.build.length cu.d)) := (HK1.out.kept B7.out hzc).grown hg8 ((HTG1.out.kept B7.out hzc).apart (own_below HA1.out.own B7.out))
      have B8 : Hid (Below (ws.heap.size + 1) Wc w8) := (B7.out.mono hzl).grown hg8 (Nat.le_trans hzl B7.out.size) (fun k hk => (HA1.out.own.lt k hk).1)
      have HE3 : Hid (sweepL m (rs.map REdge.edge) = (out ++ [(⟨lo', cu'⟩ : RSp)]).map RSp.sp ++ nextL m (T + e1.step) lo.cut ((rs.drop (i + 1)).map REdge.edge)) := by
       unfold Hid
       have e5 : lo'.cut = lo.cut := by rw [E5.out, HA1.out.bare]; rfl
       have e6 : cu'.cut = cu.cut := by rw [E6.out]; show (⟨cu.kind, bare cu.cut.v⟩ : Cut) = _; rw [right_bare HCR.out]; rfl
       rw [HE2.out, List.map_append, List.append_assoc]; show _ = _ ++ ([Sp.mk lo'.cut cu'.cut] ++ _); rw [e5, e6]; rfl
      clear ho8 hg8 hHeld HE2
      refine cl 7 rfl fun K hK => ?_
      refine region_append_sp (by rfl) _ _ rfl rfl rfl hrun ?_
      refine hK.out _ _ ⟨B8.out, K8.out⟩ (fun hHeld => ?_)
      clear hK K hrun
      try simp only [Act.put, p1, p2, p3]
      refine tk 8 rfl v8 ?_
      refine wpAnyH_done (by kernel_rfl) ?_ _
      clear hHeld
      go_wp2
      go_step3
      rw [show ((i : Int) + 1) = ((i + 1 : Nat) : Int) from rfl]
      exact .inl ⟨rfl, SwJ0.mk ws rs (i + 1) (T + e1.step) v8 (out ++ [⟨lo', cu'⟩]) lo HF.out HA8.out HE3.out rfl, by rw [hmm2]; simp [SwM0, intOf]; omega⟩
  ·have HEN : Hid (Ends cu.cut ((rs.drop (i + 1)).map REdge.edge)) := .inl (by rw [List.drop_eq_nil_of_le (by rw [HF.out.len]; omega)]; rfl)
   obtain ⟨_, _, x0, x1, x2, x3, x4, x5⟩ := HK.out
   go_upto_region 10 with (fail)
   have hd1 : decide ((i : Int) + 1 < (re.length : Int)) = false := decide_eq_false (by omega)
   have hd2 : (re.length : Int) ≤ (i : Int) + 1 := by omega
   refine wp_region_held_drew (S := fun w' => Below W.heap.size W w') (by kernel_rfl) (Below.refl _ _).drew (fun hHeld => ?_)
   refine tk 0 rfl (.int .i64 ((i : Int) + 1)) ?_
   refine tk 1 rfl (.slice (some ⟨g, 0, none⟩) re.length c) ?_
   refine tk 2 rfl (.int .i64 (re.length : Int)) ?_
   refine tk 3 rfl (.bool false) ?_
   refine tk 4 rfl (.bool false) ?_
   refine sk 5 rfl ?_
   refine sk 6 rfl ?_
   refine sk 7 rfl ?_
   refine sk 8 rfl ?_
   refine sk 9 rfl ?_
   refine sk 10 rfl ?_
   refine sk 11 rfl ?_
   refine sk 12 rfl ?_
   refine tk 13 rfl (.bool false) ?_
   refine wpAnyH_done (by kernel_rfl) ?_ _
   clear hHeld
   change Exit.then _ _ _ _ W.drew
   have HA1 := Lib.hid ((HA.out.kept (Below.refl W.heap.size W).drew).step hst1 hst2 hlt)
   have HK1 := Lib.hid HK.out.drew
   have HTG1 : Hid (Tag W.drew bc) := HTG.out
   have HMC1 : Hid (W.drew.cell? ⟨mb, 0, none⟩ = some (.int .i64 m)) := HMC.out
   have hw2 : W.drew.heap.size = W.heap.size := rfl
   clear z0 z1 z2 z3 z4 z5 z6 x0 x1 x2 x3 x4 x5 hd1 hd2 HCE
   generalize W.drew = Wc at HA1 HK1 HTG1 HMC1 hw2 ⊢
   have HO1 := Lib.hid (HF.out.old.trans (HA1.out.bel.mono HF.out.old.size))
   rw [← hw2] at hml hzl hzc
   clear HA HK HTG HMC hw2 hgl2
   go_wp2_with fail
   refine (in_any (T + e1.step) m mb _ HMC1.out).mono ?_
   rintro e w' ⟨rfl, rfl⟩
   clear HMC1
   obtain ⟨_, hf, x0, x1, x2, x3, x4, x5⟩ := HA1.out.lob
   obtain ⟨_, _, y0, y1, y2, y3, y4, y5⟩ := HK1.out
   by_cases hmt : m ≤ T + e1.step
   ·rw [decide_eq_true hmt]
    cases was
    ·have HE2 : Hid (sweepL m (rs.map REdge.edge) = out.map RSp.sp ++ nextL m (T + e1.step) cu.cut ((rs.drop (i + 1)).map REdge.edge)) := by
      unfold Hid
      rw [HE1.out, go_open_ HEN.out hmt]; rfl
     have HA3 := Lib.hid (HA1.out.setlo cu HCL.out HCR.out)
     clear HE1 hmt
     go_wp2
     go_step3
     rw [show ((i : Int) + 1) = ((i + 1 : Nat) : Int) from rfl]
     exact .inl ⟨rfl, SwJ0.mk ws rs (i + 1) (T + e1.step) set out cu HF.out HA3.out HE2.out rfl, by rw [hmm2]; simp [SwM0, intOf]; omega⟩
    ·have HE2 : Hid (sweepL m (rs.map REdge.edge) = out.map RSp.sp ++ nextL m (T + e1.step) lo.cut ((rs.drop (i + 1)).map REdge.edge)) := by
      unfold Hid
      rw [HE1.out, go_same HEN.out (decide_eq_true hmt)]; rfl
     clear HE1 hmt
     go_wp2
     go_step3
     rw [show ((i : Int) + 1) = ((i + 1 : Nat) : Int) from rfl]
     exact .inl ⟨rfl, SwJ0.mk ws rs (i + 1) (T + e1.step) set out lo HF.out HA1.out HE2.out rfl, by rw [hmm2]; simp [SwM0, intOf]; omega⟩
   ·rw [decide_eq_false hmt]
    cases was
    ·have HE2 : Hid (sweepL m (rs.map REdge.edge) = out.map RSp.sp ++ nextL m (T + e1.step) lo.cut ((rs.drop (i + 1)).map REdge.edge)) := by
      unfold Hid
      rw [HE1.out, go_same HEN.out (decide_eq_false hmt)]; rfl
     clear HE1 hmt
     go_wp2
     go_step3
     rw [show ((i : Int) + 1) = ((i + 1 : Nat) : Int) from rfl]
     exact .inl ⟨rfl, SwJ0.mk ws rs (i + 1) (T + e1.step) set out lo HF.out HA1.out HE2.out rfl, by rw [hmm2]; simp [SwM0, intOf]; omega⟩
    ·have HE2 : Hid (sweepL m (rs.map REdge.edge) = out.map RSp.sp ++ (⟨lo.cut, cu.cut⟩ :: nextL m (T + e1.step) lo.cut ((rs.drop (i + 1)).map REdge.edge))) := by
      unfold Hid
      rw [HE1.out, go_shut HEN.out hmt]; rfl
     clear HE1 hmt
     go_upto_region 15 with (fail)
     have B0 := Lib.hid ((Below.refl Wc.heap.size Wc).drew)
     refine wp_region_held_drew (S := fun w' => Below (ws.heap.size + 1) Wc w' ∧ At6B w' bc (.int .i64 cu.kind) (.int .u64 (cu.v.a : Int)) (.int .u64 (cu.v.b : Int)) (.int .u64 (cu.v.c : Int)) (.slice cu.A cu.v.pre.length cu.c) (.slice cu.B cu.v.build.length cu.d)) (by kernel_rfl) ⟨B0.out.mono hzl, HK1.out.drew⟩ (fun hHeld => ?_)
     refine tk 0 rfl set ?_
     refine tk 1 rfl (.agg #[.int .i64 lo.kind, .int .u64 (lo.v.a : Int), .int .u64 (lo.v.b : Int), .int .u64 (lo.v.c : Int), .slice lo.A lo.v.pre.length lo.c, .slice lo.B lo.v.build.length lo.d]) ?_ fun w' hS' => by have q0 := (hS'.1.cell (p := ⟨ws.heap.size, 0, none⟩) (Nat.lt_succ_self _)).trans x0; have q1 := (hS'.1.cell (p := ⟨ws.heap.size, 1, none⟩) (Nat.lt_succ_self _)).trans x1; have q2 := (hS'.1.cell (p := ⟨ws.heap.size, 2, none⟩) (Nat.lt_succ_self _)).trans x2; have q3 := (hS'.1.cell (p := ⟨ws.heap.size, 3, none⟩) (Nat.lt_succ_self _)).trans x3; have q4 := (hS'.1.cell (p := ⟨ws.heap.size, 4, none⟩) (Nat.lt_succ_self _)).trans x4; have q5 := (hS'.1.cell (p := ⟨ws.heap.size, 5, none⟩) (Nat.lt_succ_self _)).trans x5; go_simp
     refine tk 3 rfl (.agg #[.int .i64 cu.kind, .int .u64 (cu.v.a : Int), .int .u64 (cu.v.b : Int), .int .u64 (cu.v.c : Int), .slice cu.A cu.v.pre.length cu.c, .slice cu.B cu.v.build.length cu.d]) ?_ fun w' hS' => by obtain ⟨_, _, _, q0, q1, q2, q3, q4, q5⟩ := hS'; go_simp
     refine cl 2 rfl fun K hK => ?_
     go_simp
     refine (copied_any lo _ ((HA1.out.lies.kept HO1.out).kept B0.out) (Nat.le_trans HA1.out.few (by omega))).mono ?_
     rintro e w5 ⟨lo', rfl, hlo5, ho5, hb5⟩
     have B5 := Lib.hid (B0.out.trans (hb5.mono B0.out.size))
     have O5 := Lib.hid (ho5.mono (Nat.le_trans hzl B0.out.size))
     have E5 := Lib.hid hlo5
     clear ho5 hb5 hlo5 hHeld
     refine hK.out _ _ ⟨B5.out.mono hzl, HK1.out.kept B5.out hzc⟩ (fun hHeld => ?_)
     clear hK K
     try simp only [Act.put, p1, p2, p3]
     refine cl 4 rfl fun K hK => ?_
     go_simp
     refine (copied_any cu _ ((HCL.out.kept HO1.out).kept B5.out) (Nat.le_trans (right_few HCR.out).1 (by omega))).mono ?_
     rintro e w6 ⟨cu', rfl, hcu6, ho6, hb6⟩
     have B6 := Lib.hid (B5.out.trans (hb6.mono B5.out.size))
     have O6 := Lib.hid (ho6.mono (Nat.le_trans hzl B5.out.size))
     have P6 := Lib.hid (O5.out.kept hb6)
     have E6 := Lib.hid hcu6
     clear ho6 hb6 hcu6 hHeld
     refine hK.out _ _ ⟨B6.out.mono hzl, HK1.out.kept B6.out hzc⟩ (fun hHeld => ?_)
     clear hK K
     try simp only [Act.put, p1, p2, p3]
     refine tk 5 rfl (.agg #[.int .i64 lo'.kind, .int .u64 (lo'.v.a : Int), .int .u64 (lo'.v.b : Int), .int .u64 (lo'.v.c : Int), .slice lo'.A lo'.v.pre.length lo'.c, .slice lo'.B lo'.v.build.length lo'.d, .int .i64 cu'.kind, .int .u64 (cu'.v.a : Int), .int .u64 (cu'.v.b : Int), .int .u64 (cu'.v.c : Int), .slice cu'.A cu'.v.pre.length cu'.c, .slice cu'.B cu'.v.build.length cu'.d]) ?_
     have A7 := Lib.hid ((Below.refl w6.heap.size w6).alloc (Nat.le_refl _) (.cells #[.int .i64 lo'.kind, .int .u64 (lo'.v.a : Int), .int .u64 (lo'.v.b : Int), .int .u64 (lo'.v.c : Int), .slice lo'.A lo'.v.pre.length lo'.c, .slice lo'.B lo'.v.build.length lo'.d, .int .i64 cu'.kind, .int .u64 (cu'.v.a : Int), .int .u64 (cu'.v.b : Int), .int .u64 (cu'.v.c : Int), .slice cu'.A cu'.v.pre.length cu'.c, .slice cu'.B cu'.v.build.length cu'.d] 43))
     have B7 := Lib.hid (B6.out.trans (A7.out.mono B6.out.size))
     refine cl 6 rfl fun K hK => ?_
     go_simp
     refine hK.out _ _ ⟨B7.out.mono hzl, HK1.out.kept B7.out hzc⟩ (fun hHeld => ?_)
     clear hK K
     try simp only [Act.put, p1, p2, p3]
     obtain ⟨v8, w8, hrun, ho8, hg8⟩ := run_append_sp (w6.alloc (.cells #[.int .i64 lo'.kind, .int .u64 (lo'.v.a : Int), .int .u64 (lo'.v.b : Int), .int .u64 (lo'.v.c : Int), .slice lo'.A lo'.v.pre.length lo'.c, .slice lo'.B lo'.v.build.length lo'.d, .int .i64 cu'.kind, .int .u64 (cu'.v.a : Int), .int .u64 (cu'.v.b : Int), .int .u64 (cu'.v.c : Int), .slice cu'.A cu'.v.pre.length cu'.c, .slice cu'.B cu'.v.build.length cu'.d] 43)) 31 (ws.heap.size + 1) set out.length out (own_below HA1.out.own B7.out) ⟨w6.heap.size, 0, none⟩ 1 1 [⟨lo', cu'⟩] rfl (news_new w6 _ _) (by omega) (Nat.le_trans hzl B7.out.size)
     have HA8 := Lib.hid (HA1.out.more (s := ⟨lo', cu'⟩) B7.out (P6.out.kept A7.out) (O6.out.kept A7.out) hg8 ho8 (by omega))
     have K8 : Hid (At6B w8 bc (.int .i64 cu.kind) (.int .u64 (cu.v.a : Int)) (.int .u64 (cu.v.b : Int)) (.int .u64 (cu.v.c : Int)) (.slice cu.A cu.v.pre.length cu.c) (.slice cu.B cu.v.build.length cu.d)) := (HK1.out.kept B7.out hzc).grown hg8 ((HTG1.out.kept B7.out hzc).apart (own_below HA1.out.own B7.out))
     have B8 : Hid (Below (ws.heap.size + 1) Wc w8) := (B7.out.mono hzl).grown hg8 (Nat.le_trans hzl B7.out.size) (fun k hk => (HA1.out.own.lt k hk).1)
     have HE3 : Hid (sweepL m (rs.map REdge.edge) = (out ++ [(⟨lo', cu'⟩ : RSp)]).map RSp.sp ++ nextL m (T + e1.step) lo.cut ((rs.drop (i + 1)).map REdge.edge)) := by
      unfold Hid
      have e5 : lo'.cut = lo.cut := by rw [E5.out, HA1.out.bare]; rfl
      have e6 : cu'.cut = cu.cut := by rw [E6.out]; show (⟨cu.kind, bare cu.cut.v⟩ : Cut) = _; rw [right_bare HCR.out]; rfl
      rw [HE2.out, List.map_append, List.append_assoc]; show _ = _ ++ ([Sp.mk lo'.cut cu'.cut] ++ _); rw [e5, e6]; rfl
     clear ho8 hg8 hHeld HE2
     refine cl 7 rfl fun K hK => ?_
     refine region_append_sp (by rfl) _ _ rfl rfl rfl hrun ?_
     refine hK.out _ _ ⟨B8.out, K8.out⟩ (fun hHeld => ?_)
     clear hK K hrun
     try simp only [Act.put, p1, p2, p3]
     refine tk 8 rfl v8 ?_
     refine wpAnyH_done (by kernel_rfl) ?_ _
     clear hHeld
     go_wp2
     go_step3
     rw [show ((i : Int) + 1) = ((i + 1 : Nat) : Int) from rfl]
     exact .inl ⟨rfl, SwJ0.mk ws rs (i + 1) (T + e1.step) v8 (out ++ [⟨lo', cu'⟩]) lo HF.out HA8.out HE3.out rfl, by rw [hmm2]; simp [SwM0, intOf]; omega⟩
 ·intro HP
  intro mm
  refine SwJ0.out ?_
  intro W ws rs i T set out lo u9 u10 u11 u14 u15 u16 u17 u18 u19 u20 u21 u22 u23 u24 u25 u26 u27 u28 u29 u30 u31 u32 u33 u34 u35 u36 u37 u38 u39 u40 u41 u42 u43 u44 u45 u46 u47 u48 u49 u50 u51 u52 u53 u54 u55 u56 u57 u58 u59 u60 u61 u62 u63 u64 u65 u66 u67 u68 u69 u70 u71 u72 u73 hfix hat heq hmm
  have hmm2 : mm = 2 * (re.length - i) + 1 := by rw [← hmm]; simp [SwM0, intOf]
  clear hmm
  have HF := Lib.hid hfix
  have HA := Lib.hid hat
  have HE := Lib.hid heq
  have hi := hat.ile
  have hsm := hfix.small
  clear hfix hat heq
  by_cases hlt : i < re.length
  ·have e0 : ((i : Int) == (re.length : Int)) = false := by rw [beq_eq_false_iff_ne]; omega
   go_upto_region 7 with (fail)
   obtain ⟨g, rfl, hgl, hcl⟩ := HF.out.cells (by omega)
   obtain ⟨z0, z1, z2, z3, z4, z5, z6⟩ := ed_cells (w := W) (g := g) (n := re.length) (l := rs) (fun j hj q u hu => (HA.out.bel.cell (p := ⟨g, 0 + j * 7 + q, none⟩) hgl).trans (hcl j hj q u hu)) hlt
   have hmc : W.cell? ⟨mb, 0, none⟩ = some (.int .i64 m) := (HA.out.bel.cell (p := ⟨mb, 0, none⟩) HF.out.mbl).trans HF.out.mbc
   clear hcl
   have HX : Hid (Lies w1 (rs.getD i default).cut ∧ right (rs.getD i default).cut.cut = true) := ⟨HF.out.lies _ (getE_mem (by rw [HF.out.len]; exact hlt)), HF.out.right _ (getE_mem (by rw [HF.out.len]; exact hlt))⟩
   have HE1 : Hid (sweepL m (rs.map REdge.edge) = out.map RSp.sp ++ go m (rs.getD i default).cut.cut (decide (m ≤ T)) T lo.cut ((rs.drop i).map REdge.edge)) := by
    unfold Hid; rw [HE.out, drop_ed rs i (by rw [HF.out.len]; exact hlt)]; rfl
   generalize rs.getD i default = e1 at z0 z1 z2 z3 z4 z5 z6 HX HE1
   have hml : mb < W.heap.size := Nat.lt_of_lt_of_le HF.out.mbl HA.out.bel.size
   have hgl2 : g < W.heap.size := Nat.lt_of_lt_of_le hgl HA.out.bel.size
   refine wp_region_held_drew (S := fun w' => Below W.heap.size W w') (by kernel_rfl) (Below.refl _ _).drew (fun hHeld => ?_)
   refine tk 0 rfl (.slice (some ⟨g, 0, none⟩) re.length c) ?_
   refine tk 1 rfl (.int .i64 (i : Int)) ?_
   refine tk 2 rfl (.pointer (some ⟨g, i * 7, none⟩)) ?_
   refine tk 3 rfl (.pointer (some ⟨g, i * 7, none⟩)) ?_
   refine tk 4 rfl (.agg #[.int .i64 e1.cut.kind, .int .u64 (e1.cut.v.a : Int), .int .u64 (e1.cut.v.b : Int), .int .u64 (e1.cut.v.c : Int), .slice e1.cut.A e1.cut.v.pre.length e1.cut.c, .slice e1.cut.B e1.cut.v.build.length e1.cut.d]) ?_ fun w' hS' => by have q0 := (hS'.cell (p := ⟨g, i * 7, none⟩) hgl2).trans z0; have q1 := (hS'.cell (p := ⟨g, i * 7 + 1, none⟩) hgl2).trans z1; have q2 := (hS'.cell (p := ⟨g, i * 7 + 2, none⟩) hgl2).trans z2; have q3 := (hS'.cell (p := ⟨g, i * 7 + 3, none⟩) hgl2).trans z3; have q4 := (hS'.cell (p := ⟨g, i * 7 + 4, none⟩) hgl2).trans z4; have q5 := (hS'.cell (p := ⟨g, i * 7 + 5, none⟩) hgl2).trans z5; go_simp
   refine tk 5 rfl (.func (.func 86) #[] #[.pointer (some ⟨mb, 0, none⟩)]) ?_
   refine tk 6 rfl (.int .i64 T) ?_
   refine wpAnyH_ready (rs := [7, 8]) (by kernel_rfl) (by simp) ?_
   refine AllReadyH.cons (o := { dst := some 26, op := Op.call { callee := Callee.value (Operand.tmp 24), args := #[Operand.tmp 25], argTypes := #[3] }, type := 4, pos := _, after := _, guard := none }) rfl (fun K hK => ?_) (AllReadyH.cons (o := { dst := some 9, op := Op.alloc 41, type := 0, pos := _, after := _, guard := none }) rfl (fun K hK => ?_) AllReadyH.nil)
   ·go_simp
    refine (in_any T m mb _ ((hHeld.cell (p := ⟨mb, 0, none⟩) hml).trans hmc)).mono ?_
    rintro e w2 ⟨rfl, rfl⟩
    refine hK.out _ _ hHeld (fun hHeld => ?_)
    clear hK K
    try simp only [Act.put, p1, p2, p3]
    refine cl 8 rfl fun K hK => ?_
    go_simp
    refine hK.out _ _ (((Below.refl W.heap.size W).alloc (Nat.le_refl _) _).drew) (fun hHeld => ?_)
    clear hK K
    try simp only [Act.put, p1, p2, p3]
    refine cl 9 rfl fun K hK => ?_
    go_simp
    refine hK.out _ _ (((Below.refl W.heap.size W).alloc (Nat.le_refl _) _).drew) (fun hHeld => ?_)
    clear hK K
    try simp only [Act.put, p1, p2, p3]
    refine tk 10 rfl (.bool (decide (m ≤ T))) ?_
    refine wpAnyH_done (by kernel_rfl) ?_ _
    clear hHeld
    go_wp2
    go_step3
    rename_i hK
    exact hK _ _ (HP.out _ _ _ (SwJ1.mk ws rs i T set out lo W.heap.size e1.cut (decide (m ≤ T)) HF.out (HA.out.kept (((Below.refl W.heap.size W).alloc (Nat.le_refl _) _).drew)) hlt (At6B.drew (At6B.new W _ _ _ _ _ _ _)) (Tag.new W _) HX.out.1 HX.out.2 HE1.out rfl) (by rw [hmm2]; simp [SwM1, intOf]))
   ·go_simp
    refine hK.out _ _ (((Below.refl W.heap.size W).alloc (Nat.le_refl _) _).drew) (fun hHeld => ?_)
    clear hK K
    try simp only [Act.put, p1, p2, p3]
    refine cl 7 rfl fun K hK => ?_
    go_simp
    refine (in_any T m mb _ ((hHeld.cell (p := ⟨mb, 0, none⟩) hml).trans hmc)).mono ?_
    rintro e w2 ⟨rfl, rfl⟩
    refine hK.out _ _ hHeld (fun hHeld => ?_)
    clear hK K
    try simp only [Act.put, p1, p2, p3]
    refine cl 9 rfl fun K hK => ?_
    go_simp
    refine hK.out _ _ (((Below.refl W.heap.size W).alloc (Nat.le_refl _) _).drew) (fun hHeld => ?_)
    clear hK K
    try simp only [Act.put, p1, p2, p3]
    refine tk 10 rfl (.bool (decide (m ≤ T))) ?_
    refine wpAnyH_done (by kernel_rfl) ?_ _
    clear hHeld
    go_wp2
    go_step3
    rename_i hK
    exact hK _ _ (HP.out _ _ _ (SwJ1.mk ws rs i T set out lo W.heap.size e1.cut (decide (m ≤ T)) HF.out (HA.out.kept (((Below.refl W.heap.size W).alloc (Nat.le_refl _) _).drew)) hlt (At6B.drew (At6B.new W _ _ _ _ _ _ _)) (Tag.new W _) HX.out.1 HX.out.2 HE1.out rfl) (by rw [hmm2]; simp [SwM1, intOf]))
  ·have e0 : ((i : Int) == (re.length : Int)) = true := by rw [beq_iff_eq]; omega
   have HE2 : Hid (out.map RSp.sp = sweepL m (rs.map REdge.edge)) := by
    unfold Hid
    rw [HE.out, List.drop_eq_nil_of_le (by rw [HF.out.len]; omega)]; simp [nextL]
   go_wp2
   simp only [jumps]
   exact bodyPost_ret (v := set) (by simp [results, Tryz.results46, go_sem]) rfl ⟨ws.heap.size + 1, set, out, rs, rfl, HF.out.perm, HF.out.sorted, HE2.out, Nat.le_succ_of_le HF.out.old.size, HA.out.own, HA.out.cuts, Nat.le_trans HA.out.len hi, HF.out.old.trans (HA.out.bel.mono HF.out.old.size)⟩
 ·intro HP
  go_wp2_with fail
  refine HS.out.mono ?_
  rintro e ws ⟨rfl, rs, hp, hpw, ho, hg⟩
  have HFX : Hid (SwFix w1 re A re.length mb m ws rs) := by
   have hln := hp.length_eq
   obtain ⟨A', c', e', _, _, hcell⟩ := own_cells evals_len ho rfl
   injection e' with e1 e2 e3
   subst e1
   refine ⟨hp, hpw, hln, hn, fun e he => HL.out e (hp.mem_iff.1 he), fun e he => HR.out e (hp.mem_iff.1 he), fun e he => HT.out e (hp.mem_iff.1 he), fun h0 => ?_, Nat.lt_of_lt_of_le hmb hg.size, hg.cell HC.out (Ne.symm HN.out), HB.out.grown hg HB.out.size (fun k hk => Nat.le_trans hbase (HOW.out.lt k hk).1)⟩
   obtain ⟨g, hg1, _, hg2, _, hg3⟩ := hcell (by rw [hln]; exact h0)
   exact ⟨g, hg1, hg2, by rw [← hln]; exact hg3⟩
  have HAT : Hid (SwAt w1 ws re.length 0 0 (.slice none 0 0) [] rlow (ws.alloc (.cells #[.int .i64 0, .int .u64 0, .int .u64 0, .int .u64 0, .slice none 0 0, .slice none 0 0] 41))) :=
   {bel := (Below.refl _ _).alloc (Nat.le_refl _) _, lob := At6B.new ws _ _ _ _ _ _ _, own := World.ownsRow_nil _ _ _ _, cuts := (fun s hs => by cases hs), lies := Lies.low w1, bare := rfl, few := Nat.zero_le _, len := Nat.le_refl _, lo10 := by omega, hi10 := by omega, ile := Nat.zero_le _ }
  have HEQ : Hid (sweepL m (rs.map REdge.edge) = ([] : List RSp).map RSp.sp ++ nextL m 0 rlow.cut ((rs.drop 0).map REdge.edge)) := sweepL_next m _
  clear HS hp hpw ho hg
  go_wp2
  go_step3
  rename_i hK
  exact hK _ _ (HP.out _ _ (SwJ0.mk ws rs 0 0 (.slice none 0 0) [] rlow HFX.out HAT.out HEQ.out rfl))
end Go.Proofs.YtgfbflnhjpbceaaGreatDoor.Span
namespace Go.Proofs.YtgfbflnhjpbceaaGreatDoor.Span
open Go.RowKit Num Ident Semver Prec

def EdSrc (w : World) (v : Value) (re : List REdge) : Prop :=
 ∃ A c, v = .slice A re.length c ∧ (A = none → re = [] ∧ c = 0) ∧ ∀ ad, A = some ad → ad.block < w.heap.size ∧ ∀ j u, (re.flatMap REdge.vals)[j]? = some u → w.cell? (ad.add j) = some u
theorem EdSrc.kept {w w' : World} {v : Value} {re : List REdge} (h : EdSrc w v re) (hb : Below w.heap.size w w') : EdSrc w' v re := by
 obtain ⟨A, c, rfl, h1, h2⟩ := h
 refine ⟨A, c, rfl, h1, fun ad ha => ?_⟩
 obtain ⟨h3, h4⟩ := h2 ad ha
 refine ⟨Nat.lt_of_lt_of_le h3 hb.size, fun j u hu => ?_⟩
 rw [hb.cell (by unfold Addr.add; split <;> exact h3)]; exact h4 j u hu
theorem EdSrc.of_own {w : World} {base : Nat} {v : Value} {re : List REdge} (h : w.ownsRow base 111 7 v re.length (re.flatMap REdge.vals)) : EdSrc w v re := by
 have hcs := fun g => h.cells (g := g)
 have hlt := h.lt
 rcases h.2 with ⟨rfl, h0⟩ | ⟨g, cap, cur, rfl, _, hg, _⟩
 ·have : re = [] := List.eq_nil_of_length_eq_zero h0
  subst this
  exact ⟨none, 0, rfl, fun _ => ⟨rfl, rfl⟩, fun ad ha => by cases ha⟩
 ·refine ⟨_, cap, rfl, (fun e => by cases e), fun ad ha => ?_⟩
  injection ha with ha
  subst ha
  exact ⟨(hlt g rfl).2, fun j u hu => hcs g rfl j u hu⟩
theorem run_append_ed (w : World) (ty : TypeId) (base : Nat) (v : Value) (n : Nat) (l : List REdge) (hown : w.ownsRow base 111 7 v n (l.flatMap REdge.vals)) (x : Value) (r : List REdge) (hr : EdSrc w x r) (hb : (n + r.length) * 88 ≤ 140737488355328) (hbase : base ≤ w.heap.size) :
  ∃ v' w', (Builtin.append_ #[63, 63] ty #[v, x]).run Tryz.prog w = .ok v' w' ∧ w'.ownsRow base 111 7 v' (n + r.length) ((l ++ r).flatMap REdge.vals) ∧ w.grownBy w' v.ownBlock := by
 obtain ⟨i, hi, hz, hs, hby⟩ := info_parts edInfo
 obtain ⟨A, c, rfl, h1, h2⟩ := hr
 cases A with
 | none =>
  obtain ⟨rfl, rfl⟩ := h1 rfl
  exact ⟨v, w, run_append_owned_none (P := Tryz.prog) (w := w) base 63 ty 111 i 7 Tryz.underlying63 hi v n _ hown, by simpa using hown, World.grownBy.refl w _⟩
 | some ad =>
  obtain ⟨v', w', h3, h4, h5, _⟩ := run_append_own (P := Tryz.prog) w base 63 ty 111 i _ 7 88 Tryz.underlying63 hi hz hs hby rfl (by omega) v n _ hown ad r.length c (r.flatMap REdge.vals)
   (by rw [flat_len _ 7 evals_len]) (h2 ad rfl).2 (flat_one _ evals_one r) (by unfold maxLen; omega) hb hbase
  exact ⟨v', w', h3, by rw [List.flatMap_append]; exact h4, h5⟩
theorem wpList_append_eds (w : World) {ops : Array Oper} {rest : List Oper} {o : Oper} {a : Act} {Q : Exit → Act → World → Prop} (hgd : o.guard = none) (s x : Operand)
  (ho : o.op = .call { callee := .builtin .append, args := #[s, x], argTypes := #[63, 63] })
  (base : Nat) (v : Value) (n : Nat) (l : List REdge) (hs : a.eval s = v) (hown : w.ownsRow base 111 7 v n (l.flatMap REdge.vals)) (y : Value) (r : List REdge) (hx : a.eval x = y) (hr : EdSrc w y r) (hb : (n + r.length) * 88 ≤ 140737488355328) (hbase : base ≤ w.heap.size)
  (h : ∀ v' w', w'.ownsRow base 111 7 v' (n + r.length) ((l ++ r).flatMap REdge.vals) → Below base w w' → wpList Tryz.prog ops Q rest (a.put o.dst v') w') : wpList Tryz.prog ops Q (o :: rest) a w := by
 refine wpList_plain hgd fun K hK => ?_
 obtain ⟨v', w', hrun, h2, h3⟩ := run_append_ed w o.type base v n l hown y r hr hb hbase
 unfold Oper.wp execOp
 simp only [ho, resolve, invoke, builtin, Sem.run_bind, Sem.run_pure, Result.andThen_ok, List.map_toArray, List.map_cons, List.map_nil, hs, hx, hrun]
 exact hK _ _ (h v' w' h2 ((Below.refl base w).grown h3 hbase fun k hk => (hown.lt k hk).1))
def GrowPost (w : World) (e : Ending) (w' : World) : Prop := ∃ v, e = .returned v ∧ w'.ownsRow w.heap.size 111 7 v 0 [] ∧ Below w.heap.size w w'
theorem grow_any (n : Nat) (w : World) (hn : n ≤ 1000000) : Calls Tryz.prog 122 #[.slice none 0 0, .int .i64 (n : Int)] w (GrowPost w) := by
 obtain ⟨i, hi, hz, hs, hby⟩ := info_parts edInfo
 by_cases h0 : n = 0
 ·subst h0
  exact (Any8.slices_Grow_room Tryz.growL none 0 0 0 w (Nat.le_refl _) (by omega) (by omega) (Nat.le_refl _)).mono fun e w' ⟨he, hw⟩ => by
   subst hw; exact ⟨_, he, World.ownsRow_nil _ _ _ _, Below.refl _ _⟩
 ·refine (Any8.slices_Grow_grow Tryz.growL i _ hi hz (by rw [hs]; omega) none 0 0 n [] w (Nat.le_refl _) (by omega) (by rw [hby]; omega) (by omega) (by simp) (fun _ => rfl) (fun a ha => by cases ha)).mono fun e w' ⟨he, hw⟩ => ?_
  have h1 := grownCap_ge w (0 + n) 0 111
  have h2 := grownCap_le_maxLen w (0 + n) 0 111 (by unfold maxLen; omega)
  refine ⟨_, he, ?_, ?_⟩
  ·rw [hw]
   refine World.ownsRow_made (base := w.heap.size) (e := 111) (size := 7) w.drew _ _ (Nat.le_refl _) h2 ?_
   rw [Array.size_append, Array.size_append, size_zeroCells, size_zeroCells]
   show 0 + (0 + n - 0) * 7 + (grownCap w (0 + n) 0 111 - (0 + n)) * 7 = grownCap w (0 + n) 0 111 * 7
   omega
  ·rw [hw]; exact ((Below.refl _ _).drew).alloc (Nat.le_refl _) _
def ConcatPost (w : World) (re : List REdge) (e : Ending) (w' : World) : Prop := ∃ v, e = .returned v ∧ w'.ownsRow w.heap.size 111 7 v re.length (re.flatMap REdge.vals) ∧ Below w.heap.size w w'
def upto (r1 r2 : List REdge) (k : Nat) : List REdge := if k = 0 then [] else if k = 1 then r1 else r1 ++ r2
def ConcatJ (w : World) (r1 r2 : List REdge) (v iv : Value) (W : World) : Prop :=
 ∃ k : Nat, k ≤ 2 ∧ iv = .int .i64 k ∧ W.ownsRow w.heap.size 111 7 v (upto r1 r2 k).length ((upto r1 r2 k).flatMap REdge.vals) ∧ Below w.heap.size w W

theorem concat_any (q : Nat) (v1 v2 : Value) (r1 r2 : List REdge) (w : World) (hq : q < w.heap.size) (c1 : w.cell? ⟨q, 0, none⟩ = some v1) (c2 : w.cell? ⟨q, 1, none⟩ = some v2) (s1 : EdSrc w v1 r1) (s2 : EdSrc w v2 r2) (h1 : r1.length ≤ 100000) (h2 : r2.length ≤ 100000) :
  Calls Tryz.prog 95 #[.slice (some ⟨q, 0, none⟩) 2 2] w (ConcatPost w (r1 ++ r2)) := by
 have S1 := Lib.hid s1
 have S2 := Lib.hid s2
 obtain ⟨A1, d1, rfl, _, _⟩ := s1
 obtain ⟨A2, d2, rfl, _, _⟩ := s2
 go_enter Tryz.func95, Tryz.ntmps95
 go_wp2
 go_loop [3, 11] (fun n i => ∃ k : Nat, k ≤ 2 ∧ i = .int .i64 k ∧ n = .int .i64 ((upto r1 r2 k).length : Int)) (fun _ i => 2 - (intOf i).toNat)
 case atStart => exact ⟨0, by omega, rfl, rfl⟩
 case round =>
  obtain ⟨k, hk, rfl, rfl⟩ := hrel
  obtain rfl | rfl | rfl : k = 0 ∨ k = 1 ∨ k = 2 := by omega
  ·have e0 : (upto r1 r2 0).length = 0 := rfl
   rw [e0]
   go_wp2
   exact ⟨⟨1, by omega, rfl, rfl⟩, by simp [intOf]⟩
  ·have e0 : (upto r1 r2 1).length = r1.length := rfl
   rw [e0]
   go_wp2
   exact ⟨⟨2, by omega, rfl, by show _ = Value.int .i64 (((r1 ++ r2).length : Nat) : Int); rw [List.length_append, Int.natCast_add]⟩, by simp [intOf]⟩
  ·have e0 : (upto r1 r2 2).length = r1.length + r2.length := by show (r1 ++ r2).length = _; rw [List.length_append]
   rw [e0]
   have HG : Hid (Calls Tryz.prog 122 #[.slice none 0 0, .int .i64 ((r1.length : Int) + (r2.length : Int))] w (GrowPost w)) := by
    have := grow_any (r1.length + r2.length) w (by omega); rw [Int.natCast_add] at this; exact this
   clear e0
   go_wp2_with fail
   refine HG.out.mono ?_
   rintro e w1 ⟨v, rfl, ho, hb⟩
   have HO := Lib.hid ho
   have HB := Lib.hid hb
   clear ho hb HG
   go_wp2
   go_loopw [6, 27] (fun v i W => ConcatJ w r1 r2 v i W) (fun _ i _ => 2 - (intOf i).toNat)
   case atStart => exact ⟨0, by omega, rfl, HO.out, HB.out⟩
   case round =>
    obtain ⟨k, hk, rfl, hown, hbel⟩ := hrel
    have HO1 := Lib.hid hown
    have HB1 := Lib.hid hbel
    have hsz := hbel.size
    have T1 := Lib.hid (S1.out.kept hbel)
    have T2 := Lib.hid (S2.out.kept hbel)
    have x1 := (hbel.cell (p := ⟨q, 0, none⟩) hq).trans c1
    have x2 := (hbel.cell (p := ⟨q, 1, none⟩) hq).trans c2
    clear hown hbel HO HB
    obtain rfl | rfl | rfl : k = 0 ∨ k = 1 ∨ k = 2 := by omega
    ·go_wp2_with (first
      | (at_builtin; refine wpList_append_eds _ rfl _ _ rfl w.heap.size _ 0 [] rfl HO1.out _ r1 rfl T1.out (by omega) hsz ?_; intro v4 w4 ho4 hb4; have HB4 := Lib.hid (HB1.out.trans hb4); have HO4 := Lib.hid ho4; clear ho4 hb4)
      | fail)
     refine ⟨⟨1, by omega, rfl, ?_, HB4.out⟩, by simp [intOf]⟩
     have := HO4.out
     rw [Nat.zero_add, List.nil_append] at this
     exact this
    ·go_wp2_with (first
      | (at_builtin; refine wpList_append_eds _ rfl _ _ rfl w.heap.size _ r1.length r1 rfl HO1.out _ r2 rfl T2.out (by omega) hsz ?_; intro v4 w4 ho4 hb4; have HB4 := Lib.hid (HB1.out.trans hb4); have HO4 := Lib.hid ho4; clear ho4 hb4)
      | fail)
     refine ⟨⟨2, by omega, rfl, ?_, HB4.out⟩, by simp [intOf]⟩
     have := HO4.out
     rw [← List.length_append] at this
     exact this
    ·go_wp2
     exact bodyPost_ret (v := u6) (by simp [results, Tryz.results95, go_sem]) rfl ⟨u6, rfl, HO1.out, HB1.out⟩
end Go.Proofs.YtgfbflnhjpbceaaGreatDoor.Span
