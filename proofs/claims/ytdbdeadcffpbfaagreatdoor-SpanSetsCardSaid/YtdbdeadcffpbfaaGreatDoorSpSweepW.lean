/-
  The sweep over sorted edges (span.sweep). Conditions: the call owns the slice of edges, their cuts are right and lie in older memory, their steps are small; the question is a small number's.
-/
import Derived.Test.YtdbdeadcffpbfaaGreatDoorSpSweepJ
namespace Go.Proofs.YtdbdeadcffpbfaaGreatDoor.Span
open Go.RowKit Num Ident Semver Prec

set_option maxRecDepth 100000 in
set_option maxHeartbeats 6400000 in
theorem sweep_any (w1 w : World) (base : Nat) (v : Value) (re : List REdge) (mb : Nat) (m : Int) (hown : w.ownsRow base 55 7 v re.length (re.flatMap REdge.vals)) (hl : ∀ e ∈ re, Lies w1 e.cut) (hb : Below w1.heap.size w1 w) (hbase : w1.heap.size ≤ base) (hmb : mb < w.heap.size) (hc : w.cell? ⟨mb, 0, none⟩ = some (.int .i64 m)) (hne : v.ownBlock ≠ some mb)
    (hr : ∀ e ∈ re, right e.cut.cut = true) (hst : ∀ e ∈ re, -10 ≤ e.step ∧ e.step ≤ 10) (hn : re.length ≤ 100000) :
    Calls Tryz.prog 20 #[v, .func (.func 39) #[] #[.pointer (some ⟨mb, 0, none⟩)]] w (SweepPost w1 m re) := by
  have HS := Lib.hid (sort_any w1 w base v re hown hl hb hbase (by omega))
  have HOW := Lib.hid hown
  have HL := Lib.hid hl
  have HB := Lib.hid hb
  have HR := Lib.hid hr
  have HT := Lib.hid hst
  have HC := Lib.hid hc
  have HN := Lib.hid hne
  obtain ⟨A, c, rfl, _, _, _⟩ := own_cells evals_len hown rfl
  clear hown hl hb hr hst hc hne
  go_enter Tryz.func20, Tryz.ntmps20
  go_wp2
  refine wp_two (SwJ0 w1 re A re.length c mb m) (SwJ1 w1 re A re.length c mb m) (SwM0 re.length) (SwM1 re.length) rfl rfl ?_ ?_ ?_
  · intro mm
    refine SwJ1.out ?_
    intro W ws rs i T set out lo bc cu was u11 u14 u15 u16 u17 u18 u19 u20 u21 u22 u23 u24 u25 u26 u27 u28 u29 u30 u31 u32 u33 u34 u35 u36 u37 u38 u39 u40 u41 u42 u43 u44 u45 u46 u47 u48 u49 u50 u51 u52 u53 u54 u55 u56 u57 u58 u59 u60 u61 u62 u63 u64 u65 u66 u67 u68 u69 u70 u71 u72 u73 hfix hat hlt hcb htg hcl0 hcr0 heq hmm
    have hmm2 : mm = 2 * (re.length - i) := by rw [← hmm]; simp [SwM1, intOf]
    clear hmm
    have HF := Lib.hid hfix
    have HA := Lib.hid hat
    have HK := Lib.hid hcb
    have HTG := Lib.hid htg
    have HCL := Lib.hid hcl0
    have HCR := Lib.hid hcr0
    have HE := Lib.hid heq
    have hsm := hfix.small
    have hlo := hat.lo10
    have hhi := hat.hi10
    have hol := hat.len
    have hzl := hat.lob.1
    have hzc := hcb.1
    clear hfix hat heq hcb hcl0 hcr0 htg
    obtain ⟨g, rfl, hgl, hcl⟩ := HF.out.cells (by omega)
    have hgl2 : g < W.heap.size := Nat.lt_of_lt_of_le hgl HA.out.bel.size
    have hml : mb < W.heap.size := Nat.lt_of_lt_of_le HF.out.mbl HA.out.bel.size
    have HMC : Hid (W.cell? ⟨mb, 0, none⟩ = some (.int .i64 m)) := (HA.out.bel.cell (p := ⟨mb, 0, none⟩) HF.out.mbl).trans HF.out.mbc
    have HCE := Lib.hid (fun j hj q u hu => (HA.out.bel.cell (p := ⟨g, 0 + j * 7 + q, none⟩) hgl).trans (hcl j hj q u hu))
    clear hcl
    obtain ⟨z0, z1, z2, z3, z4, z5, z6⟩ := ed_cells (w := W) (g := g) (n := re.length) (l := rs) HCE.out hlt
    have HD := Lib.hid (drop_ed rs i (by rw [HF.out.len]; exact hlt))
    have hst := HF.out.step _ (getE_mem (l := rs) (k := i) (by rw [HF.out.len]; exact hlt))
    obtain ⟨hst1, hst2⟩ := hst
    generalize rs.getD i default = e1 at z0 z1 z2 z3 z4 z5 z6 HD hst1 hst2
    have HE1 : Hid (sweepL m (rs.map REdge.edge) = out.map RSp.sp ++ go m cu.cut was T lo.cut (e1.edge :: (rs.drop (i + 1)).map REdge.edge)) := by rw [← HD.out]; exact HE.out
    clear HE HD
    by_cases hnx : i + 1 < re.length
    · obtain ⟨y0', y1', y2', y3', y4', y5', y6'⟩ := ed_cells (w := W) (g := g) (n := re.length) (l := rs) HCE.out hnx
      have HX2 : Hid (Lies w1 (rs.getD (i + 1) default).cut) := HF.out.lies _ (getE_mem (by rw [HF.out.len]; exact hnx))
      have HD2 := Lib.hid (drop_ed rs (i + 1) (by rw [HF.out.len]; exact hnx))
      generalize rs.getD (i + 1) default = e2 at y0' y1' y2' y3' y4' y5' y6' HX2 HD2
      obtain ⟨_, _, x0, x1, x2, x3, x4, x5⟩ := HK.out
      go_upto_region 10 with (fail)
      have hd1 : decide ((i : Int) + 1 < (re.length : Int)) = true := decide_eq_true (by omega)
      have hd2 : (i : Int) + 1 < (re.length : Int) := by omega
      have hd3 : ((i : Int) + 1).toNat = i + 1 := by omega
      have hd4 : 0 ≤ (i : Int) + 1 := by omega
      go_still_tail 11, (by kernel_rfl)
      change wpList _ _ _ _ _ W.drew
      have HA2 := Lib.hid (HA.out.kept (Below.refl W.heap.size W).drew)
      have HK2 := Lib.hid HK.out.drew
      have HTG2 : Hid (Tag W.drew bc) := HTG.out
      have HMC2 : Hid (W.drew.cell? ⟨mb, 0, none⟩ = some (.int .i64 m)) := HMC.out
      have hw2 : W.drew.heap.size = W.heap.size := rfl
      clear z0 z1 z2 z3 z4 z5 z6 x0 x1 x2 x3 x4 x5 y0' y1' y2' y3' y4' y5' y6' hd1 hd2 hd3 hd4 HCE
      generalize W.drew = W2 at HA2 HK2 HTG2 HMC2 hw2 ⊢
      have HO2 := Lib.hid (HF.out.old.trans (HA2.out.bel.mono HF.out.old.size))
      rw [← hw2] at hml hzl hzc
      clear HA HK HTG HMC hw2 hgl2
      go_wp2_with fail
      refine (stand_any cu e2.cut _ (HCL.out.kept HO2.out) (HX2.out.kept HO2.out)).mono ?_
      rintro e Wc ⟨rfl, hb3⟩
      have HA1 := Lib.hid ((HA2.out.kept hb3).step hst1 hst2 hlt)
      have HK1 := Lib.hid (HK2.out.kept hb3 hzc)
      have HTG1 := Lib.hid (HTG2.out.kept hb3 hzc)
      have HMC1 : Hid (Wc.cell? ⟨mb, 0, none⟩ = some (.int .i64 m)) := (hb3.cell (p := ⟨mb, 0, none⟩) hml).trans HMC2.out
      have HO1 := Lib.hid (HO2.out.trans (hb3.mono HO2.out.size))
      replace hzl := Nat.lt_of_lt_of_le hzl hb3.size
      replace hzc := Nat.lt_of_lt_of_le hzc hb3.size
      clear hb3 HA2 HK2 HTG2 HMC2 HO2 hml
      obtain ⟨st, hst⟩ : ∃ st, stand cu.cut e2.cut.cut = st := ⟨_, rfl⟩
      rw [hst]
      have HST := Lib.hid hst
      clear hst
      by_cases hz : st = 0
      · have HE2 : Hid (sweepL m (rs.map REdge.edge) = out.map RSp.sp ++ go m cu.cut was (T + e1.step) lo.cut ((rs.drop (i + 1)).map REdge.edge)) := by
          unfold Hid
          rw [HE1.out, HD2.out, go_like (show stand cu.cut e2.edge.cut = 0 from HST.out.trans hz)]; rfl
        subst hz
        clear HE1
        go_wp2
        go_step3
        rw [show ((i : Int) + 1) = ((i + 1 : Nat) : Int) from rfl]
        exact .inr ⟨rfl, SwJ1.mk ws rs (i + 1) (T + e1.step) set out lo bc cu was HF.out HA1.out hnx HK1.out HTG1.out HCL.out HCR.out HE2.out rfl, by rw [hmm2]; simp [SwM1, intOf]; omega⟩
      · have hn1 : (st == 0) = false := by simp [hz]
        have HEN : Hid (Ends cu.cut ((rs.drop (i + 1)).map REdge.edge)) := .inr ⟨_, _, HD2.out, fun h => hz (HST.out.symm.trans h)⟩
        clear hz HD2
        go_wp2_with fail
        refine (in_any (T + e1.step) m mb _ HMC1.out).mono ?_
        rintro e w' ⟨rfl, rfl⟩
        clear HMC1
        obtain ⟨_, hf, x0, x1, x2, x3, x4, x5⟩ := HA1.out.lob
        obtain ⟨_, _, y0, y1, y2, y3, y4, y5⟩ := HK1.out
        by_cases hmt : m ≤ T + e1.step
        · rw [decide_eq_true hmt]
          cases was
          · have HE2 : Hid (sweepL m (rs.map REdge.edge) = out.map RSp.sp ++ nextL m (T + e1.step) cu.cut ((rs.drop (i + 1)).map REdge.edge)) := by
              unfold Hid
              rw [HE1.out, go_open_ HEN.out hmt]; rfl
            have HA3 := Lib.hid (HA1.out.setlo cu HCL.out HCR.out)
            clear HE1 hmt
            go_wp2
            go_step3
            rw [show ((i : Int) + 1) = ((i + 1 : Nat) : Int) from rfl]
            exact .inl ⟨rfl, SwJ0.mk ws rs (i + 1) (T + e1.step) set out cu HF.out HA3.out HE2.out rfl, by rw [hmm2]; simp [SwM0, intOf]; omega⟩
          · have HE2 : Hid (sweepL m (rs.map REdge.edge) = out.map RSp.sp ++ nextL m (T + e1.step) lo.cut ((rs.drop (i + 1)).map REdge.edge)) := by
              unfold Hid
              rw [HE1.out, go_same HEN.out (decide_eq_true hmt)]; rfl
            clear HE1 hmt
            go_wp2
            go_step3
            rw [show ((i : Int) + 1) = ((i + 1 : Nat) : Int) from rfl]
            exact .inl ⟨rfl, SwJ0.mk ws rs (i + 1) (T + e1.step) set out lo HF.out HA1.out HE2.out rfl, by rw [hmm2]; simp [SwM0, intOf]; omega⟩
        · rw [decide_eq_false hmt]
          cases was
          · have HE2 : Hid (sweepL m (rs.map REdge.edge) = out.map RSp.sp ++ nextL m (T + e1.step) lo.cut ((rs.drop (i + 1)).map REdge.edge)) := by
              unfold Hid
              rw [HE1.out, go_same HEN.out (decide_eq_false hmt)]; rfl
            clear HE1 hmt
            go_wp2
            go_step3
            rw [show ((i : Int) + 1) = ((i + 1 : Nat) : Int) from rfl]
            exact .inl ⟨rfl, SwJ0.mk ws rs (i + 1) (T + e1.step) set out lo HF.out HA1.out HE2.out rfl, by rw [hmm2]; simp [SwM0, intOf]; omega⟩
          · have HE2 : Hid (sweepL m (rs.map REdge.edge) = out.map RSp.sp ++ (⟨lo.cut, cu.cut⟩ :: nextL m (T + e1.step) lo.cut ((rs.drop (i + 1)).map REdge.edge))) := by
              unfold Hid
              rw [HE1.out, go_shut HEN.out hmt]; rfl
            clear HE1 hmt
            go_upto_region 15 with (fail)
            have B0 := Lib.hid ((Below.refl Wc.heap.size Wc).drew)
            refine wp_region_held_drew (S := fun w' => Below (ws.heap.size + 1) Wc w' ∧ At6B w' bc (.int .i64 cu.kind) (.int .u64 (cu.v.a : Int)) (.int .u64 (cu.v.b : Int)) (.int .u64 (cu.v.c : Int)) (.slice cu.A cu.v.pre.length cu.c) (.slice cu.B cu.v.build.length cu.d)) (by kernel_rfl) ⟨B0.out.mono hzl, HK1.out.drew⟩ (fun hHeld => ?_)
            refine wpAnyH_take (i := 0) (oi := { dst := some 66, op := Op.move (Operand.tmp 5), type := 22, pos := "span.go:165", after := #[], guard := none }) (v := set) rfl (by kernel_rfl) (by kernel_rfl) (by kernel_rfl) (fun _ _ _ h => h) (Or.inl ⟨by rfl, fun w' hS' => by go_simp⟩) (by assumption) ?_
            simp only [Act.put, List.setIfInBounds_toArray, List.set_cons_zero, List.set_cons_succ]
            refine wpAnyH_take (i := 1) (oi := { dst := some 67, op := Op.load 35 (Operand.tmp 6), type := 35, pos := "span.go:165", after := #[], guard := none }) (v := .agg #[.int .i64 lo.kind, .int .u64 (lo.v.a : Int), .int .u64 (lo.v.b : Int), .int .u64 (lo.v.c : Int), .slice lo.A lo.v.pre.length lo.c, .slice lo.B lo.v.build.length lo.d]) rfl (by kernel_rfl) (by kernel_rfl) (by kernel_rfl) (fun _ _ _ h => h) (Or.inl ⟨by rfl, fun w' hS' => by have q0 := (hS'.1.cell (p := ⟨ws.heap.size, 0, none⟩) (Nat.lt_succ_self _)).trans x0; have q1 := (hS'.1.cell (p := ⟨ws.heap.size, 1, none⟩) (Nat.lt_succ_self _)).trans x1; have q2 := (hS'.1.cell (p := ⟨ws.heap.size, 2, none⟩) (Nat.lt_succ_self _)).trans x2; have q3 := (hS'.1.cell (p := ⟨ws.heap.size, 3, none⟩) (Nat.lt_succ_self _)).trans x3; have q4 := (hS'.1.cell (p := ⟨ws.heap.size, 4, none⟩) (Nat.lt_succ_self _)).trans x4; have q5 := (hS'.1.cell (p := ⟨ws.heap.size, 5, none⟩) (Nat.lt_succ_self _)).trans x5; go_simp⟩) (by assumption) ?_
            simp only [Act.put, List.setIfInBounds_toArray, List.set_cons_zero, List.set_cons_succ]
            refine wpAnyH_take (i := 3) (oi := { dst := some 69, op := Op.load 35 (Operand.tmp 9), type := 35, pos := "span.go:165", after := #[], guard := none }) (v := .agg #[.int .i64 cu.kind, .int .u64 (cu.v.a : Int), .int .u64 (cu.v.b : Int), .int .u64 (cu.v.c : Int), .slice cu.A cu.v.pre.length cu.c, .slice cu.B cu.v.build.length cu.d]) rfl (by kernel_rfl) (by kernel_rfl) (by kernel_rfl) (fun _ _ _ h => h) (Or.inl ⟨by rfl, fun w' hS' => by obtain ⟨_, _, _, q0, q1, q2, q3, q4, q5⟩ := hS'; go_simp⟩) (by assumption) ?_
            simp only [Act.put, List.setIfInBounds_toArray, List.set_cons_zero, List.set_cons_succ]
            refine wpAnyH_ready (rs := [2]) (by kernel_rfl) (by simp) ?_
            refine AllReadyH.cons (o := { dst := some 68, op := Op.call { callee := Callee.value (Operand.func 36), args := #[Operand.tmp 67], argTypes := #[35] }, type := 35, pos := "span.go:165", after := #[{ on := 1, ground := Ground.data }], guard := none }) rfl (fun K hK => ?_) AllReadyH.nil
            go_simp
            refine (copied_any lo _ ((HA1.out.lies.kept HO1.out).kept B0.out) (Nat.le_trans HA1.out.few (by omega))).mono ?_
            rintro e w5 ⟨lo', rfl, hlo5, ho5, hb5⟩
            have B5 := Lib.hid (B0.out.trans (hb5.mono B0.out.size))
            have O5 := Lib.hid (ho5.mono (Nat.le_trans hzl B0.out.size))
            have E5 := Lib.hid hlo5
            clear ho5 hb5 hlo5 hHeld
            refine hK.out _ _ ⟨B5.out.mono hzl, HK1.out.kept B5.out hzc⟩ (fun hHeld => ?_)
            clear hK K
            try simp only [Act.put, List.setIfInBounds_toArray, List.set_cons_zero, List.set_cons_succ]
            refine wpAnyH_ready (rs := [4]) (by kernel_rfl) (by simp) ?_
            refine AllReadyH.cons (o := { dst := some 70, op := Op.call { callee := Callee.value (Operand.func 36), args := #[Operand.tmp 69], argTypes := #[35] }, type := 35, pos := "span.go:165", after := #[{ on := 3, ground := Ground.data }, { on := 2, ground := Ground.chain }], guard := none }) rfl (fun K hK => ?_) AllReadyH.nil
            go_simp
            refine (copied_any cu _ ((HCL.out.kept HO1.out).kept B5.out) (Nat.le_trans (right_few HCR.out).1 (by omega))).mono ?_
            rintro e w6 ⟨cu', rfl, hcu6, ho6, hb6⟩
            have B6 := Lib.hid (B5.out.trans (hb6.mono B5.out.size))
            have O6 := Lib.hid (ho6.mono (Nat.le_trans hzl B5.out.size))
            have P6 := Lib.hid (O5.out.kept hb6)
            have E6 := Lib.hid hcu6
            clear ho6 hb6 hcu6 hHeld
            refine hK.out _ _ ⟨B6.out.mono hzl, HK1.out.kept B6.out hzc⟩ (fun hHeld => ?_)
            clear hK K
            try simp only [Act.put, List.setIfInBounds_toArray, List.set_cons_zero, List.set_cons_succ]
            refine wpAnyH_take (i := 5) (oi := { dst := some 71, op := Op.build 37 #[(0, Operand.tmp 68), (1, Operand.tmp 70)], type := 37, pos := "span.go:165", after := #[{ on := 2, ground := Ground.data }, { on := 4, ground := Ground.data }], guard := none }) (v := .agg #[.int .i64 lo'.kind, .int .u64 (lo'.v.a : Int), .int .u64 (lo'.v.b : Int), .int .u64 (lo'.v.c : Int), .slice lo'.A lo'.v.pre.length lo'.c, .slice lo'.B lo'.v.build.length lo'.d, .int .i64 cu'.kind, .int .u64 (cu'.v.a : Int), .int .u64 (cu'.v.b : Int), .int .u64 (cu'.v.c : Int), .slice cu'.A cu'.v.pre.length cu'.c, .slice cu'.B cu'.v.build.length cu'.d]) rfl (by kernel_rfl) (by kernel_rfl) (by kernel_rfl) (fun _ _ _ h => h) (Or.inl ⟨by rfl, fun w' hS' => by go_simp⟩) (by assumption) ?_
            simp only [Act.put, List.setIfInBounds_toArray, List.set_cons_zero, List.set_cons_succ]
            have A7 := Lib.hid ((Below.refl w6.heap.size w6).alloc (Nat.le_refl _) (.cells #[.int .i64 lo'.kind, .int .u64 (lo'.v.a : Int), .int .u64 (lo'.v.b : Int), .int .u64 (lo'.v.c : Int), .slice lo'.A lo'.v.pre.length lo'.c, .slice lo'.B lo'.v.build.length lo'.d, .int .i64 cu'.kind, .int .u64 (cu'.v.a : Int), .int .u64 (cu'.v.b : Int), .int .u64 (cu'.v.c : Int), .slice cu'.A cu'.v.pre.length cu'.c, .slice cu'.B cu'.v.build.length cu'.d] 37))
            have B7 := Lib.hid (B6.out.trans (A7.out.mono B6.out.size))
            refine wpAnyH_ready (rs := [6]) (by kernel_rfl) (by simp) ?_
            refine AllReadyH.cons (o := { dst := some 72, op := Op.buildSlice 22 1 #[(0, Operand.tmp 71)], type := 22, pos := "span.go:165", after := #[{ on := 5, ground := Ground.data }], guard := none }) rfl (fun K hK => ?_) AllReadyH.nil
            go_simp
            refine hK.out _ _ ⟨B7.out.mono hzl, HK1.out.kept B7.out hzc⟩ (fun hHeld => ?_)
            clear hK K
            try simp only [Act.put, List.setIfInBounds_toArray, List.set_cons_zero, List.set_cons_succ]
            obtain ⟨v8, w8, hrun, ho8, hg8⟩ := run_append_sp (w6.alloc (.cells #[.int .i64 lo'.kind, .int .u64 (lo'.v.a : Int), .int .u64 (lo'.v.b : Int), .int .u64 (lo'.v.c : Int), .slice lo'.A lo'.v.pre.length lo'.c, .slice lo'.B lo'.v.build.length lo'.d, .int .i64 cu'.kind, .int .u64 (cu'.v.a : Int), .int .u64 (cu'.v.b : Int), .int .u64 (cu'.v.c : Int), .slice cu'.A cu'.v.pre.length cu'.c, .slice cu'.B cu'.v.build.length cu'.d] 37)) 22 (ws.heap.size + 1) set out.length out (own_below HA1.out.own B7.out) ⟨w6.heap.size, 0, none⟩ 1 1 [⟨lo', cu'⟩] rfl (news_new w6 _ _) (by omega) (Nat.le_trans hzl B7.out.size)
            have HA8 := Lib.hid (HA1.out.more (s := ⟨lo', cu'⟩) B7.out (P6.out.kept A7.out) (O6.out.kept A7.out) hg8 ho8 (by omega))
            have K8 : Hid (At6B w8 bc (.int .i64 cu.kind) (.int .u64 (cu.v.a : Int)) (.int .u64 (cu.v.b : Int)) (.int .u64 (cu.v.c : Int)) (.slice cu.A cu.v.pre.length cu.c) (.slice cu.B cu.v.build.length cu.d)) := (HK1.out.kept B7.out hzc).grown hg8 ((HTG1.out.kept B7.out hzc).apart (own_below HA1.out.own B7.out))
            have B8 : Hid (Below (ws.heap.size + 1) Wc w8) := (B7.out.mono hzl).grown hg8 (Nat.le_trans hzl B7.out.size) (fun k hk => (HA1.out.own.lt k hk).1)
            have HE3 : Hid (sweepL m (rs.map REdge.edge) = (out ++ [(⟨lo', cu'⟩ : RSp)]).map RSp.sp ++ nextL m (T + e1.step) lo.cut ((rs.drop (i + 1)).map REdge.edge)) := by
              unfold Hid
              have e5 : lo'.cut = lo.cut := by rw [E5.out, HA1.out.bare]; rfl
              have e6 : cu'.cut = cu.cut := by rw [E6.out]; show (⟨cu.kind, bare cu.cut.v⟩ : Cut) = _; rw [right_bare HCR.out]; rfl
              rw [HE2.out, List.map_append, List.append_assoc]; show _ = _ ++ ([Sp.mk lo'.cut cu'.cut] ++ _); rw [e5, e6]; rfl
            clear ho8 hg8 hHeld HE2
            refine wpAnyH_ready (rs := [7]) (by kernel_rfl) (by simp) ?_
            refine AllReadyH.cons (o := { dst := some 73, op := Op.call { callee := Callee.builtin Builtin.append, args := #[Operand.tmp 66, Operand.tmp 72], argTypes := #[22, 22] }, type := 22, pos := "span.go:165", after := #[{ on := 0, ground := Ground.data }, { on := 6, ground := Ground.data }, { on := 4, ground := Ground.chain }], guard := none }) rfl (fun K hK => ?_) AllReadyH.nil
            refine region_append_sp (by rfl) _ _ rfl rfl rfl hrun ?_
            refine hK.out _ _ ⟨B8.out, K8.out⟩ (fun hHeld => ?_)
            clear hK K hrun
            try simp only [Act.put, List.setIfInBounds_toArray, List.set_cons_zero, List.set_cons_succ]
            refine wpAnyH_take (i := 8) (oi := { dst := some 5, op := Op.assign (Operand.tmp 73), type := 22, pos := "span.go:165", after := #[{ on := 7, ground := Ground.data }, { on := 7, ground := Ground.chain }, { on := 0, ground := Ground.phase }, { on := 1, ground := Ground.phase }, { on := 2, ground := Ground.phase }, { on := 3, ground := Ground.phase }, { on := 4, ground := Ground.phase }, { on := 5, ground := Ground.phase }, { on := 6, ground := Ground.phase }, { on := 7, ground := Ground.phase }], guard := none }) (v := v8) rfl (by kernel_rfl) (by kernel_rfl) (by kernel_rfl) (fun _ _ _ h => h) (Or.inl ⟨by rfl, fun w' hS' => by go_simp⟩) (by assumption) ?_
            simp only [Act.put, List.setIfInBounds_toArray, List.set_cons_zero, List.set_cons_succ]
            refine wpAnyH_done (by kernel_rfl) ?_ _
            clear hHeld
            go_wp2
            go_step3
            rw [show ((i : Int) + 1) = ((i + 1 : Nat) : Int) from rfl]
            exact .inl ⟨rfl, SwJ0.mk ws rs (i + 1) (T + e1.step) v8 (out ++ [⟨lo', cu'⟩]) lo HF.out HA8.out HE3.out rfl, by rw [hmm2]; simp [SwM0, intOf]; omega⟩
    · have HEN : Hid (Ends cu.cut ((rs.drop (i + 1)).map REdge.edge)) := .inl (by rw [List.drop_eq_nil_of_le (by rw [HF.out.len]; omega)]; rfl)
      obtain ⟨_, _, x0, x1, x2, x3, x4, x5⟩ := HK.out
      go_upto_region 10 with (fail)
      have hd1 : decide ((i : Int) + 1 < (re.length : Int)) = false := decide_eq_false (by omega)
      have hd2 : (re.length : Int) ≤ (i : Int) + 1 := by omega
      refine wp_region_held_drew (S := fun w' => Below W.heap.size W w') (by kernel_rfl) (Below.refl _ _).drew (fun hHeld => ?_)
      refine wpAnyH_take (i := 0) (oi := { dst := some 36, op := Op.move (Operand.tmp 7), type := 3, pos := "span.go:158", after := #[], guard := none }) (v := .int .i64 ((i : Int) + 1)) rfl (by kernel_rfl) (by kernel_rfl) (by kernel_rfl) (fun _ _ _ h => h) (Or.inl ⟨by rfl, fun w' hS' => by go_simp⟩) (by assumption) ?_
      simp only [Act.put, List.setIfInBounds_toArray, List.set_cons_zero, List.set_cons_succ]
      refine wpAnyH_take (i := 1) (oi := { dst := some 37, op := Op.move (Operand.tmp 0), type := 46, pos := "span.go:158", after := #[], guard := none }) (v := .slice (some ⟨g, 0, none⟩) re.length c) rfl (by kernel_rfl) (by kernel_rfl) (by kernel_rfl) (fun _ _ _ h => h) (Or.inl ⟨by rfl, fun w' hS' => by go_simp⟩) (by assumption) ?_
      simp only [Act.put, List.setIfInBounds_toArray, List.set_cons_zero, List.set_cons_succ]
      refine wpAnyH_take (i := 2) (oi := { dst := some 38, op := Op.call { callee := Callee.builtin Builtin.len, args := #[Operand.tmp 37], argTypes := #[46] }, type := 3, pos := "span.go:158", after := #[{ on := 1, ground := Ground.data }], guard := none }) (v := .int .i64 (re.length : Int)) rfl (by kernel_rfl) (by kernel_rfl) (by kernel_rfl) (fun _ _ _ h => h) (Or.inl ⟨by rfl, fun w' hS' => by go_simp⟩) (by assumption) ?_
      simp only [Act.put, List.setIfInBounds_toArray, List.set_cons_zero, List.set_cons_succ]
      refine wpAnyH_take (i := 3) (oi := { dst := some 39, op := Op.binOp BinOp.lss 3 (Operand.tmp 36) (Operand.tmp 38) 3, type := 4, pos := "span.go:158", after := #[{ on := 0, ground := Ground.data }, { on := 2, ground := Ground.data }], guard := none }) (v := .bool false) rfl (by kernel_rfl) (by kernel_rfl) (by kernel_rfl) (fun _ _ _ h => h) (Or.inl ⟨by rfl, fun w' hS' => by go_simp⟩) (by assumption) ?_
      simp only [Act.put, List.setIfInBounds_toArray, List.set_cons_zero, List.set_cons_succ]
      refine wpAnyH_take (i := 4) (oi := { dst := some 40, op := Op.move (Operand.tmp 39), type := 4, pos := "span.go:158", after := #[{ on := 3, ground := Ground.data }], guard := none }) (v := .bool false) rfl (by kernel_rfl) (by kernel_rfl) (by kernel_rfl) (fun _ _ _ h => h) (Or.inl ⟨by rfl, fun w' hS' => by go_simp⟩) (by assumption) ?_
      simp only [Act.put, List.setIfInBounds_toArray, List.set_cons_zero, List.set_cons_succ]
      refine wpAnyH_take (i := 5) (oi := { dst := some 41, op := Op.load 35 (Operand.tmp 9), type := 35, pos := "span.go:158", after := #[{ on := 4, ground := Ground.guard }], guard := some (4, true) }) (v := undef) rfl (by kernel_rfl) (by kernel_rfl) (by kernel_rfl) (fun _ _ _ h => h) (Or.inr ⟨by rfl, rfl⟩) (by assumption) ?_
      simp only [Act.put, List.setIfInBounds_toArray, List.set_cons_zero, List.set_cons_succ]
      refine wpAnyH_take (i := 6) (oi := { dst := some 42, op := Op.move (Operand.tmp 0), type := 46, pos := "span.go:158", after := #[{ on := 4, ground := Ground.guard }], guard := some (4, true) }) (v := undef) rfl (by kernel_rfl) (by kernel_rfl) (by kernel_rfl) (fun _ _ _ h => h) (Or.inr ⟨by rfl, rfl⟩) (by assumption) ?_
      simp only [Act.put, List.setIfInBounds_toArray, List.set_cons_zero, List.set_cons_succ]
      refine wpAnyH_take (i := 7) (oi := { dst := some 43, op := Op.move (Operand.tmp 7), type := 3, pos := "span.go:158", after := #[{ on := 4, ground := Ground.guard }], guard := some (4, true) }) (v := undef) rfl (by kernel_rfl) (by kernel_rfl) (by kernel_rfl) (fun _ _ _ h => h) (Or.inr ⟨by rfl, rfl⟩) (by assumption) ?_
      simp only [Act.put, List.setIfInBounds_toArray, List.set_cons_zero, List.set_cons_succ]
      refine wpAnyH_take (i := 8) (oi := { dst := some 44, op := Op.indexAddr 46 (Operand.tmp 42) (Operand.tmp 43), type := 0, pos := "span.go:158", after := #[{ on := 6, ground := Ground.data }, { on := 7, ground := Ground.data }, { on := 4, ground := Ground.guard }], guard := some (4, true) }) (v := undef) rfl (by kernel_rfl) (by kernel_rfl) (by kernel_rfl) (fun _ _ _ h => h) (Or.inr ⟨by rfl, rfl⟩) (by assumption) ?_
      simp only [Act.put, List.setIfInBounds_toArray, List.set_cons_zero, List.set_cons_succ]
      refine wpAnyH_take (i := 9) (oi := { dst := some 45, op := Op.fieldAddr 55 (Operand.tmp 44) 0, type := 0, pos := "span.go:158", after := #[{ on := 8, ground := Ground.data }, { on := 4, ground := Ground.guard }], guard := some (4, true) }) (v := undef) rfl (by kernel_rfl) (by kernel_rfl) (by kernel_rfl) (fun _ _ _ h => h) (Or.inr ⟨by rfl, rfl⟩) (by assumption) ?_
      simp only [Act.put, List.setIfInBounds_toArray, List.set_cons_zero, List.set_cons_succ]
      refine wpAnyH_take (i := 10) (oi := { dst := some 46, op := Op.load 35 (Operand.tmp 45), type := 35, pos := "span.go:158", after := #[{ on := 9, ground := Ground.data }, { on := 4, ground := Ground.guard }], guard := some (4, true) }) (v := undef) rfl (by kernel_rfl) (by kernel_rfl) (by kernel_rfl) (fun _ _ _ h => h) (Or.inr ⟨by rfl, rfl⟩) (by assumption) ?_
      simp only [Act.put, List.setIfInBounds_toArray, List.set_cons_zero, List.set_cons_succ]
      refine wpAnyH_take (i := 11) (oi := { dst := some 47, op := Op.call { callee := Callee.value (Operand.func 32), args := #[Operand.tmp 41, Operand.tmp 46], argTypes := #[35, 35] }, type := 3, pos := "span.go:158", after := #[{ on := 5, ground := Ground.data }, { on := 10, ground := Ground.data }, { on := 4, ground := Ground.chain }, { on := 4, ground := Ground.guard }], guard := some (4, true) }) (v := undef) rfl (by kernel_rfl) (by kernel_rfl) (by kernel_rfl) (fun _ _ _ h => h) (Or.inr ⟨by rfl, rfl⟩) (by assumption) ?_
      simp only [Act.put, List.setIfInBounds_toArray, List.set_cons_zero, List.set_cons_succ]
      refine wpAnyH_take (i := 12) (oi := { dst := some 48, op := Op.binOp BinOp.eql 3 (Operand.tmp 47) (Operand.const (Value.int IntKind.i64 0)) 3, type := 4, pos := "span.go:158", after := #[{ on := 11, ground := Ground.data }, { on := 4, ground := Ground.guard }], guard := some (4, true) }) (v := undef) rfl (by kernel_rfl) (by kernel_rfl) (by kernel_rfl) (fun _ _ _ h => h) (Or.inr ⟨by rfl, rfl⟩) (by assumption) ?_
      simp only [Act.put, List.setIfInBounds_toArray, List.set_cons_zero, List.set_cons_succ]
      refine wpAnyH_take (i := 13) (oi := { dst := some 49, op := Op.pick (Operand.tmp 40) (Operand.tmp 48) (Operand.const (Value.bool false)), type := 4, pos := "span.go:158", after := #[{ on := 4, ground := Ground.data }, { on := 12, ground := Ground.data }], guard := none }) (v := .bool false) rfl (by kernel_rfl) (by kernel_rfl) (by kernel_rfl) (fun _ _ _ h => h) (Or.inl ⟨by rfl, fun w' hS' => by go_simp⟩) (by assumption) ?_
      simp only [Act.put, List.setIfInBounds_toArray, List.set_cons_zero, List.set_cons_succ]
      refine wpAnyH_done (by kernel_rfl) ?_ _
      clear hHeld
      change Exit.then _ _ _ _ W.drew
      have HA1 := Lib.hid ((HA.out.kept (Below.refl W.heap.size W).drew).step hst1 hst2 hlt)
      have HK1 := Lib.hid HK.out.drew
      have HTG1 : Hid (Tag W.drew bc) := HTG.out
      have HMC1 : Hid (W.drew.cell? ⟨mb, 0, none⟩ = some (.int .i64 m)) := HMC.out
      have hw2 : W.drew.heap.size = W.heap.size := rfl
      clear z0 z1 z2 z3 z4 z5 z6 x0 x1 x2 x3 x4 x5 hd1 hd2 HCE
      generalize W.drew = Wc at HA1 HK1 HTG1 HMC1 hw2 ⊢
      have HO1 := Lib.hid (HF.out.old.trans (HA1.out.bel.mono HF.out.old.size))
      rw [← hw2] at hml hzl hzc
      clear HA HK HTG HMC hw2 hgl2
      go_wp2_with fail
      refine (in_any (T + e1.step) m mb _ HMC1.out).mono ?_
      rintro e w' ⟨rfl, rfl⟩
      clear HMC1
      obtain ⟨_, hf, x0, x1, x2, x3, x4, x5⟩ := HA1.out.lob
      obtain ⟨_, _, y0, y1, y2, y3, y4, y5⟩ := HK1.out
      by_cases hmt : m ≤ T + e1.step
      · rw [decide_eq_true hmt]
        cases was
        · have HE2 : Hid (sweepL m (rs.map REdge.edge) = out.map RSp.sp ++ nextL m (T + e1.step) cu.cut ((rs.drop (i + 1)).map REdge.edge)) := by
            unfold Hid
            rw [HE1.out, go_open_ HEN.out hmt]; rfl
          have HA3 := Lib.hid (HA1.out.setlo cu HCL.out HCR.out)
          clear HE1 hmt
          go_wp2
          go_step3
          rw [show ((i : Int) + 1) = ((i + 1 : Nat) : Int) from rfl]
          exact .inl ⟨rfl, SwJ0.mk ws rs (i + 1) (T + e1.step) set out cu HF.out HA3.out HE2.out rfl, by rw [hmm2]; simp [SwM0, intOf]; omega⟩
        · have HE2 : Hid (sweepL m (rs.map REdge.edge) = out.map RSp.sp ++ nextL m (T + e1.step) lo.cut ((rs.drop (i + 1)).map REdge.edge)) := by
            unfold Hid
            rw [HE1.out, go_same HEN.out (decide_eq_true hmt)]; rfl
          clear HE1 hmt
          go_wp2
          go_step3
          rw [show ((i : Int) + 1) = ((i + 1 : Nat) : Int) from rfl]
          exact .inl ⟨rfl, SwJ0.mk ws rs (i + 1) (T + e1.step) set out lo HF.out HA1.out HE2.out rfl, by rw [hmm2]; simp [SwM0, intOf]; omega⟩
      · rw [decide_eq_false hmt]
        cases was
        · have HE2 : Hid (sweepL m (rs.map REdge.edge) = out.map RSp.sp ++ nextL m (T + e1.step) lo.cut ((rs.drop (i + 1)).map REdge.edge)) := by
            unfold Hid
            rw [HE1.out, go_same HEN.out (decide_eq_false hmt)]; rfl
          clear HE1 hmt
          go_wp2
          go_step3
          rw [show ((i : Int) + 1) = ((i + 1 : Nat) : Int) from rfl]
          exact .inl ⟨rfl, SwJ0.mk ws rs (i + 1) (T + e1.step) set out lo HF.out HA1.out HE2.out rfl, by rw [hmm2]; simp [SwM0, intOf]; omega⟩
        · have HE2 : Hid (sweepL m (rs.map REdge.edge) = out.map RSp.sp ++ (⟨lo.cut, cu.cut⟩ :: nextL m (T + e1.step) lo.cut ((rs.drop (i + 1)).map REdge.edge))) := by
            unfold Hid
            rw [HE1.out, go_shut HEN.out hmt]; rfl
          clear HE1 hmt
          go_upto_region 15 with (fail)
          have B0 := Lib.hid ((Below.refl Wc.heap.size Wc).drew)
          refine wp_region_held_drew (S := fun w' => Below (ws.heap.size + 1) Wc w' ∧ At6B w' bc (.int .i64 cu.kind) (.int .u64 (cu.v.a : Int)) (.int .u64 (cu.v.b : Int)) (.int .u64 (cu.v.c : Int)) (.slice cu.A cu.v.pre.length cu.c) (.slice cu.B cu.v.build.length cu.d)) (by kernel_rfl) ⟨B0.out.mono hzl, HK1.out.drew⟩ (fun hHeld => ?_)
          refine wpAnyH_take (i := 0) (oi := { dst := some 66, op := Op.move (Operand.tmp 5), type := 22, pos := "span.go:165", after := #[], guard := none }) (v := set) rfl (by kernel_rfl) (by kernel_rfl) (by kernel_rfl) (fun _ _ _ h => h) (Or.inl ⟨by rfl, fun w' hS' => by go_simp⟩) (by assumption) ?_
          simp only [Act.put, List.setIfInBounds_toArray, List.set_cons_zero, List.set_cons_succ]
          refine wpAnyH_take (i := 1) (oi := { dst := some 67, op := Op.load 35 (Operand.tmp 6), type := 35, pos := "span.go:165", after := #[], guard := none }) (v := .agg #[.int .i64 lo.kind, .int .u64 (lo.v.a : Int), .int .u64 (lo.v.b : Int), .int .u64 (lo.v.c : Int), .slice lo.A lo.v.pre.length lo.c, .slice lo.B lo.v.build.length lo.d]) rfl (by kernel_rfl) (by kernel_rfl) (by kernel_rfl) (fun _ _ _ h => h) (Or.inl ⟨by rfl, fun w' hS' => by have q0 := (hS'.1.cell (p := ⟨ws.heap.size, 0, none⟩) (Nat.lt_succ_self _)).trans x0; have q1 := (hS'.1.cell (p := ⟨ws.heap.size, 1, none⟩) (Nat.lt_succ_self _)).trans x1; have q2 := (hS'.1.cell (p := ⟨ws.heap.size, 2, none⟩) (Nat.lt_succ_self _)).trans x2; have q3 := (hS'.1.cell (p := ⟨ws.heap.size, 3, none⟩) (Nat.lt_succ_self _)).trans x3; have q4 := (hS'.1.cell (p := ⟨ws.heap.size, 4, none⟩) (Nat.lt_succ_self _)).trans x4; have q5 := (hS'.1.cell (p := ⟨ws.heap.size, 5, none⟩) (Nat.lt_succ_self _)).trans x5; go_simp⟩) (by assumption) ?_
          simp only [Act.put, List.setIfInBounds_toArray, List.set_cons_zero, List.set_cons_succ]
          refine wpAnyH_take (i := 3) (oi := { dst := some 69, op := Op.load 35 (Operand.tmp 9), type := 35, pos := "span.go:165", after := #[], guard := none }) (v := .agg #[.int .i64 cu.kind, .int .u64 (cu.v.a : Int), .int .u64 (cu.v.b : Int), .int .u64 (cu.v.c : Int), .slice cu.A cu.v.pre.length cu.c, .slice cu.B cu.v.build.length cu.d]) rfl (by kernel_rfl) (by kernel_rfl) (by kernel_rfl) (fun _ _ _ h => h) (Or.inl ⟨by rfl, fun w' hS' => by obtain ⟨_, _, _, q0, q1, q2, q3, q4, q5⟩ := hS'; go_simp⟩) (by assumption) ?_
          simp only [Act.put, List.setIfInBounds_toArray, List.set_cons_zero, List.set_cons_succ]
          refine wpAnyH_ready (rs := [2]) (by kernel_rfl) (by simp) ?_
          refine AllReadyH.cons (o := { dst := some 68, op := Op.call { callee := Callee.value (Operand.func 36), args := #[Operand.tmp 67], argTypes := #[35] }, type := 35, pos := "span.go:165", after := #[{ on := 1, ground := Ground.data }], guard := none }) rfl (fun K hK => ?_) AllReadyH.nil
          go_simp
          refine (copied_any lo _ ((HA1.out.lies.kept HO1.out).kept B0.out) (Nat.le_trans HA1.out.few (by omega))).mono ?_
          rintro e w5 ⟨lo', rfl, hlo5, ho5, hb5⟩
          have B5 := Lib.hid (B0.out.trans (hb5.mono B0.out.size))
          have O5 := Lib.hid (ho5.mono (Nat.le_trans hzl B0.out.size))
          have E5 := Lib.hid hlo5
          clear ho5 hb5 hlo5 hHeld
          refine hK.out _ _ ⟨B5.out.mono hzl, HK1.out.kept B5.out hzc⟩ (fun hHeld => ?_)
          clear hK K
          try simp only [Act.put, List.setIfInBounds_toArray, List.set_cons_zero, List.set_cons_succ]
          refine wpAnyH_ready (rs := [4]) (by kernel_rfl) (by simp) ?_
          refine AllReadyH.cons (o := { dst := some 70, op := Op.call { callee := Callee.value (Operand.func 36), args := #[Operand.tmp 69], argTypes := #[35] }, type := 35, pos := "span.go:165", after := #[{ on := 3, ground := Ground.data }, { on := 2, ground := Ground.chain }], guard := none }) rfl (fun K hK => ?_) AllReadyH.nil
          go_simp
          refine (copied_any cu _ ((HCL.out.kept HO1.out).kept B5.out) (Nat.le_trans (right_few HCR.out).1 (by omega))).mono ?_
          rintro e w6 ⟨cu', rfl, hcu6, ho6, hb6⟩
          have B6 := Lib.hid (B5.out.trans (hb6.mono B5.out.size))
          have O6 := Lib.hid (ho6.mono (Nat.le_trans hzl B5.out.size))
          have P6 := Lib.hid (O5.out.kept hb6)
          have E6 := Lib.hid hcu6
          clear ho6 hb6 hcu6 hHeld
          refine hK.out _ _ ⟨B6.out.mono hzl, HK1.out.kept B6.out hzc⟩ (fun hHeld => ?_)
          clear hK K
          try simp only [Act.put, List.setIfInBounds_toArray, List.set_cons_zero, List.set_cons_succ]
          refine wpAnyH_take (i := 5) (oi := { dst := some 71, op := Op.build 37 #[(0, Operand.tmp 68), (1, Operand.tmp 70)], type := 37, pos := "span.go:165", after := #[{ on := 2, ground := Ground.data }, { on := 4, ground := Ground.data }], guard := none }) (v := .agg #[.int .i64 lo'.kind, .int .u64 (lo'.v.a : Int), .int .u64 (lo'.v.b : Int), .int .u64 (lo'.v.c : Int), .slice lo'.A lo'.v.pre.length lo'.c, .slice lo'.B lo'.v.build.length lo'.d, .int .i64 cu'.kind, .int .u64 (cu'.v.a : Int), .int .u64 (cu'.v.b : Int), .int .u64 (cu'.v.c : Int), .slice cu'.A cu'.v.pre.length cu'.c, .slice cu'.B cu'.v.build.length cu'.d]) rfl (by kernel_rfl) (by kernel_rfl) (by kernel_rfl) (fun _ _ _ h => h) (Or.inl ⟨by rfl, fun w' hS' => by go_simp⟩) (by assumption) ?_
          simp only [Act.put, List.setIfInBounds_toArray, List.set_cons_zero, List.set_cons_succ]
          have A7 := Lib.hid ((Below.refl w6.heap.size w6).alloc (Nat.le_refl _) (.cells #[.int .i64 lo'.kind, .int .u64 (lo'.v.a : Int), .int .u64 (lo'.v.b : Int), .int .u64 (lo'.v.c : Int), .slice lo'.A lo'.v.pre.length lo'.c, .slice lo'.B lo'.v.build.length lo'.d, .int .i64 cu'.kind, .int .u64 (cu'.v.a : Int), .int .u64 (cu'.v.b : Int), .int .u64 (cu'.v.c : Int), .slice cu'.A cu'.v.pre.length cu'.c, .slice cu'.B cu'.v.build.length cu'.d] 37))
          have B7 := Lib.hid (B6.out.trans (A7.out.mono B6.out.size))
          refine wpAnyH_ready (rs := [6]) (by kernel_rfl) (by simp) ?_
          refine AllReadyH.cons (o := { dst := some 72, op := Op.buildSlice 22 1 #[(0, Operand.tmp 71)], type := 22, pos := "span.go:165", after := #[{ on := 5, ground := Ground.data }], guard := none }) rfl (fun K hK => ?_) AllReadyH.nil
          go_simp
          refine hK.out _ _ ⟨B7.out.mono hzl, HK1.out.kept B7.out hzc⟩ (fun hHeld => ?_)
          clear hK K
          try simp only [Act.put, List.setIfInBounds_toArray, List.set_cons_zero, List.set_cons_succ]
          obtain ⟨v8, w8, hrun, ho8, hg8⟩ := run_append_sp (w6.alloc (.cells #[.int .i64 lo'.kind, .int .u64 (lo'.v.a : Int), .int .u64 (lo'.v.b : Int), .int .u64 (lo'.v.c : Int), .slice lo'.A lo'.v.pre.length lo'.c, .slice lo'.B lo'.v.build.length lo'.d, .int .i64 cu'.kind, .int .u64 (cu'.v.a : Int), .int .u64 (cu'.v.b : Int), .int .u64 (cu'.v.c : Int), .slice cu'.A cu'.v.pre.length cu'.c, .slice cu'.B cu'.v.build.length cu'.d] 37)) 22 (ws.heap.size + 1) set out.length out (own_below HA1.out.own B7.out) ⟨w6.heap.size, 0, none⟩ 1 1 [⟨lo', cu'⟩] rfl (news_new w6 _ _) (by omega) (Nat.le_trans hzl B7.out.size)
          have HA8 := Lib.hid (HA1.out.more (s := ⟨lo', cu'⟩) B7.out (P6.out.kept A7.out) (O6.out.kept A7.out) hg8 ho8 (by omega))
          have K8 : Hid (At6B w8 bc (.int .i64 cu.kind) (.int .u64 (cu.v.a : Int)) (.int .u64 (cu.v.b : Int)) (.int .u64 (cu.v.c : Int)) (.slice cu.A cu.v.pre.length cu.c) (.slice cu.B cu.v.build.length cu.d)) := (HK1.out.kept B7.out hzc).grown hg8 ((HTG1.out.kept B7.out hzc).apart (own_below HA1.out.own B7.out))
          have B8 : Hid (Below (ws.heap.size + 1) Wc w8) := (B7.out.mono hzl).grown hg8 (Nat.le_trans hzl B7.out.size) (fun k hk => (HA1.out.own.lt k hk).1)
          have HE3 : Hid (sweepL m (rs.map REdge.edge) = (out ++ [(⟨lo', cu'⟩ : RSp)]).map RSp.sp ++ nextL m (T + e1.step) lo.cut ((rs.drop (i + 1)).map REdge.edge)) := by
            unfold Hid
            have e5 : lo'.cut = lo.cut := by rw [E5.out, HA1.out.bare]; rfl
            have e6 : cu'.cut = cu.cut := by rw [E6.out]; show (⟨cu.kind, bare cu.cut.v⟩ : Cut) = _; rw [right_bare HCR.out]; rfl
            rw [HE2.out, List.map_append, List.append_assoc]; show _ = _ ++ ([Sp.mk lo'.cut cu'.cut] ++ _); rw [e5, e6]; rfl
          clear ho8 hg8 hHeld HE2
          refine wpAnyH_ready (rs := [7]) (by kernel_rfl) (by simp) ?_
          refine AllReadyH.cons (o := { dst := some 73, op := Op.call { callee := Callee.builtin Builtin.append, args := #[Operand.tmp 66, Operand.tmp 72], argTypes := #[22, 22] }, type := 22, pos := "span.go:165", after := #[{ on := 0, ground := Ground.data }, { on := 6, ground := Ground.data }, { on := 4, ground := Ground.chain }], guard := none }) rfl (fun K hK => ?_) AllReadyH.nil
          refine region_append_sp (by rfl) _ _ rfl rfl rfl hrun ?_
          refine hK.out _ _ ⟨B8.out, K8.out⟩ (fun hHeld => ?_)
          clear hK K hrun
          try simp only [Act.put, List.setIfInBounds_toArray, List.set_cons_zero, List.set_cons_succ]
          refine wpAnyH_take (i := 8) (oi := { dst := some 5, op := Op.assign (Operand.tmp 73), type := 22, pos := "span.go:165", after := #[{ on := 7, ground := Ground.data }, { on := 7, ground := Ground.chain }, { on := 0, ground := Ground.phase }, { on := 1, ground := Ground.phase }, { on := 2, ground := Ground.phase }, { on := 3, ground := Ground.phase }, { on := 4, ground := Ground.phase }, { on := 5, ground := Ground.phase }, { on := 6, ground := Ground.phase }, { on := 7, ground := Ground.phase }], guard := none }) (v := v8) rfl (by kernel_rfl) (by kernel_rfl) (by kernel_rfl) (fun _ _ _ h => h) (Or.inl ⟨by rfl, fun w' hS' => by go_simp⟩) (by assumption) ?_
          simp only [Act.put, List.setIfInBounds_toArray, List.set_cons_zero, List.set_cons_succ]
          refine wpAnyH_done (by kernel_rfl) ?_ _
          clear hHeld
          go_wp2
          go_step3
          rw [show ((i : Int) + 1) = ((i + 1 : Nat) : Int) from rfl]
          exact .inl ⟨rfl, SwJ0.mk ws rs (i + 1) (T + e1.step) v8 (out ++ [⟨lo', cu'⟩]) lo HF.out HA8.out HE3.out rfl, by rw [hmm2]; simp [SwM0, intOf]; omega⟩
  · intro HP
    intro mm
    refine SwJ0.out ?_
    intro W ws rs i T set out lo u9 u10 u11 u14 u15 u16 u17 u18 u19 u20 u21 u22 u23 u24 u25 u26 u27 u28 u29 u30 u31 u32 u33 u34 u35 u36 u37 u38 u39 u40 u41 u42 u43 u44 u45 u46 u47 u48 u49 u50 u51 u52 u53 u54 u55 u56 u57 u58 u59 u60 u61 u62 u63 u64 u65 u66 u67 u68 u69 u70 u71 u72 u73 hfix hat heq hmm
    have hmm2 : mm = 2 * (re.length - i) + 1 := by rw [← hmm]; simp [SwM0, intOf]
    clear hmm
    have HF := Lib.hid hfix
    have HA := Lib.hid hat
    have HE := Lib.hid heq
    have hi := hat.ile
    have hsm := hfix.small
    clear hfix hat heq
    by_cases hlt : i < re.length
    · have e0 : ((i : Int) == (re.length : Int)) = false := by rw [beq_eq_false_iff_ne]; omega
      go_upto_region 7 with (fail)
      obtain ⟨g, rfl, hgl, hcl⟩ := HF.out.cells (by omega)
      obtain ⟨z0, z1, z2, z3, z4, z5, z6⟩ := ed_cells (w := W) (g := g) (n := re.length) (l := rs) (fun j hj q u hu => (HA.out.bel.cell (p := ⟨g, 0 + j * 7 + q, none⟩) hgl).trans (hcl j hj q u hu)) hlt
      have hmc : W.cell? ⟨mb, 0, none⟩ = some (.int .i64 m) := (HA.out.bel.cell (p := ⟨mb, 0, none⟩) HF.out.mbl).trans HF.out.mbc
      clear hcl
      have HX : Hid (Lies w1 (rs.getD i default).cut ∧ right (rs.getD i default).cut.cut = true) := ⟨HF.out.lies _ (getE_mem (by rw [HF.out.len]; exact hlt)), HF.out.right _ (getE_mem (by rw [HF.out.len]; exact hlt))⟩
      have HE1 : Hid (sweepL m (rs.map REdge.edge) = out.map RSp.sp ++ go m (rs.getD i default).cut.cut (decide (m ≤ T)) T lo.cut ((rs.drop i).map REdge.edge)) := by
        unfold Hid; rw [HE.out, drop_ed rs i (by rw [HF.out.len]; exact hlt)]; rfl
      generalize rs.getD i default = e1 at z0 z1 z2 z3 z4 z5 z6 HX HE1
      have hml : mb < W.heap.size := Nat.lt_of_lt_of_le HF.out.mbl HA.out.bel.size
      have hgl2 : g < W.heap.size := Nat.lt_of_lt_of_le hgl HA.out.bel.size
      refine wp_region_held_drew (S := fun w' => Below W.heap.size W w') (by kernel_rfl) (Below.refl _ _).drew (fun hHeld => ?_)
      refine wpAnyH_take (i := 0) (oi := { dst := some 19, op := Op.move (Operand.tmp 0), type := 46, pos := "span.go:153", after := #[], guard := none }) (v := .slice (some ⟨g, 0, none⟩) re.length c) rfl (by kernel_rfl) (by kernel_rfl) (by kernel_rfl) (fun _ _ _ h => h) (Or.inl ⟨by rfl, fun w' hS' => by go_simp⟩) (by assumption) ?_
      simp only [Act.put, List.setIfInBounds_toArray, List.set_cons_zero, List.set_cons_succ]
      refine wpAnyH_take (i := 1) (oi := { dst := some 20, op := Op.move (Operand.tmp 7), type := 3, pos := "span.go:153", after := #[], guard := none }) (v := .int .i64 (i : Int)) rfl (by kernel_rfl) (by kernel_rfl) (by kernel_rfl) (fun _ _ _ h => h) (Or.inl ⟨by rfl, fun w' hS' => by go_simp⟩) (by assumption) ?_
      simp only [Act.put, List.setIfInBounds_toArray, List.set_cons_zero, List.set_cons_succ]
      refine wpAnyH_take (i := 2) (oi := { dst := some 21, op := Op.indexAddr 46 (Operand.tmp 19) (Operand.tmp 20), type := 0, pos := "span.go:153", after := #[{ on := 0, ground := Ground.data }, { on := 1, ground := Ground.data }], guard := none }) (v := .pointer (some ⟨g, i * 7, none⟩)) rfl (by kernel_rfl) (by kernel_rfl) (by kernel_rfl) (fun _ _ _ h => h) (Or.inl ⟨by rfl, fun w' hS' => by go_simp⟩) (by assumption) ?_
      simp only [Act.put, List.setIfInBounds_toArray, List.set_cons_zero, List.set_cons_succ]
      refine wpAnyH_take (i := 3) (oi := { dst := some 22, op := Op.fieldAddr 55 (Operand.tmp 21) 0, type := 0, pos := "span.go:153", after := #[{ on := 2, ground := Ground.data }], guard := none }) (v := .pointer (some ⟨g, i * 7, none⟩)) rfl (by kernel_rfl) (by kernel_rfl) (by kernel_rfl) (fun _ _ _ h => h) (Or.inl ⟨by rfl, fun w' hS' => by go_simp⟩) (by assumption) ?_
      simp only [Act.put, List.setIfInBounds_toArray, List.set_cons_zero, List.set_cons_succ]
      refine wpAnyH_take (i := 4) (oi := { dst := some 23, op := Op.load 35 (Operand.tmp 22), type := 35, pos := "span.go:153", after := #[{ on := 3, ground := Ground.data }], guard := none }) (v := .agg #[.int .i64 e1.cut.kind, .int .u64 (e1.cut.v.a : Int), .int .u64 (e1.cut.v.b : Int), .int .u64 (e1.cut.v.c : Int), .slice e1.cut.A e1.cut.v.pre.length e1.cut.c, .slice e1.cut.B e1.cut.v.build.length e1.cut.d]) rfl (by kernel_rfl) (by kernel_rfl) (by kernel_rfl) (fun _ _ _ h => h) (Or.inl ⟨by rfl, fun w' hS' => by have q0 := (hS'.cell (p := ⟨g, i * 7, none⟩) hgl2).trans z0; have q1 := (hS'.cell (p := ⟨g, i * 7 + 1, none⟩) hgl2).trans z1; have q2 := (hS'.cell (p := ⟨g, i * 7 + 2, none⟩) hgl2).trans z2; have q3 := (hS'.cell (p := ⟨g, i * 7 + 3, none⟩) hgl2).trans z3; have q4 := (hS'.cell (p := ⟨g, i * 7 + 4, none⟩) hgl2).trans z4; have q5 := (hS'.cell (p := ⟨g, i * 7 + 5, none⟩) hgl2).trans z5; go_simp⟩) (by assumption) ?_
      simp only [Act.put, List.setIfInBounds_toArray, List.set_cons_zero, List.set_cons_succ]
      refine wpAnyH_take (i := 5) (oi := { dst := some 24, op := Op.move (Operand.tmp 1), type := 48, pos := "span.go:153", after := #[], guard := none }) (v := .func (.func 39) #[] #[.pointer (some ⟨mb, 0, none⟩)]) rfl (by kernel_rfl) (by kernel_rfl) (by kernel_rfl) (fun _ _ _ h => h) (Or.inl ⟨by rfl, fun w' hS' => by go_simp⟩) (by assumption) ?_
      simp only [Act.put, List.setIfInBounds_toArray, List.set_cons_zero, List.set_cons_succ]
      refine wpAnyH_take (i := 6) (oi := { dst := some 25, op := Op.move (Operand.tmp 8), type := 3, pos := "span.go:153", after := #[], guard := none }) (v := .int .i64 T) rfl (by kernel_rfl) (by kernel_rfl) (by kernel_rfl) (fun _ _ _ h => h) (Or.inl ⟨by rfl, fun w' hS' => by go_simp⟩) (by assumption) ?_
      simp only [Act.put, List.setIfInBounds_toArray, List.set_cons_zero, List.set_cons_succ]
      refine wpAnyH_ready (rs := [7, 8]) (by kernel_rfl) (by simp) ?_
      refine AllReadyH.cons (o := { dst := some 26, op := Op.call { callee := Callee.value (Operand.tmp 24), args := #[Operand.tmp 25], argTypes := #[3] }, type := 4, pos := "span.go:153", after := #[{ on := 5, ground := Ground.data }, { on := 6, ground := Ground.data }], guard := none }) rfl (fun K hK => ?_) (AllReadyH.cons (o := { dst := some 9, op := Op.alloc 35, type := 0, pos := "span.go:153", after := #[], guard := none }) rfl (fun K hK => ?_) AllReadyH.nil)
      · go_simp
        refine (in_any T m mb _ ((hHeld.cell (p := ⟨mb, 0, none⟩) hml).trans hmc)).mono ?_
        rintro e w2 ⟨rfl, rfl⟩
        refine hK.out _ _ hHeld (fun hHeld => ?_)
        clear hK K
        try simp only [Act.put, List.setIfInBounds_toArray, List.set_cons_zero, List.set_cons_succ]
        refine wpAnyH_ready (rs := [8]) (by kernel_rfl) (by simp) ?_
        refine AllReadyH.cons (o := { dst := some 9, op := Op.alloc 35, type := 0, pos := "span.go:153", after := #[], guard := none }) rfl (fun K hK => ?_) AllReadyH.nil
        go_simp
        refine hK.out _ _ (((Below.refl W.heap.size W).alloc (Nat.le_refl _) _).drew) (fun hHeld => ?_)
        clear hK K
        try simp only [Act.put, List.setIfInBounds_toArray, List.set_cons_zero, List.set_cons_succ]
        refine wpAnyH_ready (rs := [9]) (by kernel_rfl) (by simp) ?_
        refine AllReadyH.cons (o := { dst := none, op := Op.store 35 (Operand.tmp 9) (Operand.tmp 23), type := 0, pos := "span.go:153", after := #[{ on := 8, ground := Ground.data }, { on := 4, ground := Ground.data }, { on := 7, ground := Ground.chain }, { on := 0, ground := Ground.phase }, { on := 1, ground := Ground.phase }, { on := 2, ground := Ground.phase }, { on := 3, ground := Ground.phase }, { on := 4, ground := Ground.phase }, { on := 5, ground := Ground.textOnly Departure.lateStores }, { on := 6, ground := Ground.textOnly Departure.lateStores }, { on := 7, ground := Ground.textOnly Departure.lateStoresUnsure }, { on := 8, ground := Ground.phase }], guard := none }) rfl (fun K hK => ?_) AllReadyH.nil
        go_simp
        refine hK.out _ _ (((Below.refl W.heap.size W).alloc (Nat.le_refl _) _).drew) (fun hHeld => ?_)
        clear hK K
        try simp only [Act.put, List.setIfInBounds_toArray, List.set_cons_zero, List.set_cons_succ]
        refine wpAnyH_take (i := 10) (oi := { dst := some 10, op := Op.assign (Operand.tmp 26), type := 4, pos := "span.go:153", after := #[{ on := 7, ground := Ground.data }, { on := 9, ground := Ground.chain }, { on := 0, ground := Ground.phase }, { on := 1, ground := Ground.phase }, { on := 2, ground := Ground.phase }, { on := 3, ground := Ground.phase }, { on := 4, ground := Ground.phase }, { on := 5, ground := Ground.phase }, { on := 6, ground := Ground.phase }, { on := 7, ground := Ground.phase }, { on := 8, ground := Ground.phase }, { on := 9, ground := Ground.phase }], guard := none }) (v := .bool (decide (m ≤ T))) rfl (by kernel_rfl) (by kernel_rfl) (by kernel_rfl) (fun _ _ _ h => h) (Or.inl ⟨by rfl, fun w' hS' => by go_simp⟩) (by assumption) ?_
        simp only [Act.put, List.setIfInBounds_toArray, List.set_cons_zero, List.set_cons_succ]
        refine wpAnyH_done (by kernel_rfl) ?_ _
        clear hHeld
        go_wp2
        go_step3
        rename_i hK
        exact hK _ _ (HP.out _ _ _ (SwJ1.mk ws rs i T set out lo W.heap.size e1.cut (decide (m ≤ T)) HF.out (HA.out.kept (((Below.refl W.heap.size W).alloc (Nat.le_refl _) _).drew)) hlt (At6B.drew (At6B.new W _ _ _ _ _ _ _)) (Tag.new W _) HX.out.1 HX.out.2 HE1.out rfl) (by rw [hmm2]; simp [SwM1, intOf]))
      · go_simp
        refine hK.out _ _ (((Below.refl W.heap.size W).alloc (Nat.le_refl _) _).drew) (fun hHeld => ?_)
        clear hK K
        try simp only [Act.put, List.setIfInBounds_toArray, List.set_cons_zero, List.set_cons_succ]
        refine wpAnyH_ready (rs := [7]) (by kernel_rfl) (by simp) ?_
        refine AllReadyH.cons (o := { dst := some 26, op := Op.call { callee := Callee.value (Operand.tmp 24), args := #[Operand.tmp 25], argTypes := #[3] }, type := 4, pos := "span.go:153", after := #[{ on := 5, ground := Ground.data }, { on := 6, ground := Ground.data }], guard := none }) rfl (fun K hK => ?_) AllReadyH.nil
        go_simp
        refine (in_any T m mb _ ((hHeld.cell (p := ⟨mb, 0, none⟩) hml).trans hmc)).mono ?_
        rintro e w2 ⟨rfl, rfl⟩
        refine hK.out _ _ hHeld (fun hHeld => ?_)
        clear hK K
        try simp only [Act.put, List.setIfInBounds_toArray, List.set_cons_zero, List.set_cons_succ]
        refine wpAnyH_ready (rs := [9]) (by kernel_rfl) (by simp) ?_
        refine AllReadyH.cons (o := { dst := none, op := Op.store 35 (Operand.tmp 9) (Operand.tmp 23), type := 0, pos := "span.go:153", after := #[{ on := 8, ground := Ground.data }, { on := 4, ground := Ground.data }, { on := 7, ground := Ground.chain }, { on := 0, ground := Ground.phase }, { on := 1, ground := Ground.phase }, { on := 2, ground := Ground.phase }, { on := 3, ground := Ground.phase }, { on := 4, ground := Ground.phase }, { on := 5, ground := Ground.textOnly Departure.lateStores }, { on := 6, ground := Ground.textOnly Departure.lateStores }, { on := 7, ground := Ground.textOnly Departure.lateStoresUnsure }, { on := 8, ground := Ground.phase }], guard := none }) rfl (fun K hK => ?_) AllReadyH.nil
        go_simp
        refine hK.out _ _ (((Below.refl W.heap.size W).alloc (Nat.le_refl _) _).drew) (fun hHeld => ?_)
        clear hK K
        try simp only [Act.put, List.setIfInBounds_toArray, List.set_cons_zero, List.set_cons_succ]
        refine wpAnyH_take (i := 10) (oi := { dst := some 10, op := Op.assign (Operand.tmp 26), type := 4, pos := "span.go:153", after := #[{ on := 7, ground := Ground.data }, { on := 9, ground := Ground.chain }, { on := 0, ground := Ground.phase }, { on := 1, ground := Ground.phase }, { on := 2, ground := Ground.phase }, { on := 3, ground := Ground.phase }, { on := 4, ground := Ground.phase }, { on := 5, ground := Ground.phase }, { on := 6, ground := Ground.phase }, { on := 7, ground := Ground.phase }, { on := 8, ground := Ground.phase }, { on := 9, ground := Ground.phase }], guard := none }) (v := .bool (decide (m ≤ T))) rfl (by kernel_rfl) (by kernel_rfl) (by kernel_rfl) (fun _ _ _ h => h) (Or.inl ⟨by rfl, fun w' hS' => by go_simp⟩) (by assumption) ?_
        simp only [Act.put, List.setIfInBounds_toArray, List.set_cons_zero, List.set_cons_succ]
        refine wpAnyH_done (by kernel_rfl) ?_ _
        clear hHeld
        go_wp2
        go_step3
        rename_i hK
        exact hK _ _ (HP.out _ _ _ (SwJ1.mk ws rs i T set out lo W.heap.size e1.cut (decide (m ≤ T)) HF.out (HA.out.kept (((Below.refl W.heap.size W).alloc (Nat.le_refl _) _).drew)) hlt (At6B.drew (At6B.new W _ _ _ _ _ _ _)) (Tag.new W _) HX.out.1 HX.out.2 HE1.out rfl) (by rw [hmm2]; simp [SwM1, intOf]))
    · have e0 : ((i : Int) == (re.length : Int)) = true := by rw [beq_iff_eq]; omega
      have HE2 : Hid (out.map RSp.sp = sweepL m (rs.map REdge.edge)) := by
        unfold Hid
        rw [HE.out, List.drop_eq_nil_of_le (by rw [HF.out.len]; omega)]; simp [nextL]
      go_wp2
      simp only [jumps]
      exact bodyPost_ret (v := set) (by simp [results, Tryz.results20, go_sem]) rfl ⟨ws.heap.size + 1, set, out, rs, rfl, HF.out.perm, HF.out.sorted, HE2.out, Nat.le_succ_of_le HF.out.old.size, HA.out.own, HA.out.cuts, Nat.le_trans HA.out.len hi, HF.out.old.trans (HA.out.bel.mono HF.out.old.size)⟩
  · intro HP
    go_wp2_with fail
    refine HS.out.mono ?_
    rintro e ws ⟨rfl, rs, hp, hpw, ho, hg⟩
    have HFX : Hid (SwFix w1 re A re.length mb m ws rs) := by
      have hln := hp.length_eq
      obtain ⟨A', c', e', _, _, hcell⟩ := own_cells evals_len ho rfl
      injection e' with e1 e2 e3
      subst e1
      refine ⟨hp, hpw, hln, hn, fun e he => HL.out e (hp.mem_iff.1 he), fun e he => HR.out e (hp.mem_iff.1 he), fun e he => HT.out e (hp.mem_iff.1 he), fun h0 => ?_, Nat.lt_of_lt_of_le hmb hg.size, hg.cell HC.out (Ne.symm HN.out), HB.out.grown hg HB.out.size (fun k hk => Nat.le_trans hbase (HOW.out.lt k hk).1)⟩
      obtain ⟨g, hg1, _, hg2, _, hg3⟩ := hcell (by rw [hln]; exact h0)
      exact ⟨g, hg1, hg2, by rw [← hln]; exact hg3⟩
    have HAT : Hid (SwAt w1 ws re.length 0 0 (.slice none 0 0) [] rlow (ws.alloc (.cells #[.int .i64 0, .int .u64 0, .int .u64 0, .int .u64 0, .slice none 0 0, .slice none 0 0] 35))) :=
      { bel := (Below.refl _ _).alloc (Nat.le_refl _) _, lob := At6B.new ws _ _ _ _ _ _ _, own := World.ownsRow_nil _ _ _ _, cuts := (fun s hs => by cases hs), lies := Lies.low w1, bare := rfl, few := Nat.zero_le _, len := Nat.le_refl _, lo10 := by omega, hi10 := by omega, ile := Nat.zero_le _ }
    have HEQ : Hid (sweepL m (rs.map REdge.edge) = ([] : List RSp).map RSp.sp ++ nextL m 0 rlow.cut ((rs.drop 0).map REdge.edge)) := sweepL_next m _
    clear HS hp hpw ho hg
    go_wp2
    go_step3
    rename_i hK
    exact hK _ _ (HP.out _ _ (SwJ0.mk ws rs 0 0 (.slice none 0 0) [] rlow HFX.out HAT.out HEQ.out rfl))
end Go.Proofs.YtdbdeadcffpbfaaGreatDoor.Span
