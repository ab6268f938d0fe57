/-
  What the theorem of the last text needs of these: SpSweepW, NmGood. Conditions: as each theorem states.
-/
import Derived.Test.YtneilnibghhgmaaGreatDoorFwA1
import Derived.Test.YtneilnibghhgmaaGreatDoorFwA12
set_option maxRecDepth 100000
set_option maxHeartbeats 25600000
namespace Go.Proofs.YtneilnibghhgmaaGreatDoor.Span
open Go.RowKit Num Ident Semver Prec

theorem sweep_any (w1 w:World) (base:Nat) (v:Value) (re:List REdge) (mb:Nat) (m:Int) (hown:w.ownsRow base 198 7 v re.length (re.flatMap REdge.vals)) (hl:∀ e ∈ re,Lies w1 e.cut) (hb:Below w1.heap.size w1 w) (hbase:w1.heap.size≤base) (hmb:mb<w.heap.size) (hc:w.cell? ⟨mb,0,none⟩=some (.int .i64 m)) (hne:v.ownBlock≠some mb)
  (hr:∀ e ∈ re,right e.cut.cut=true) (hst:∀ e ∈ re,-10≤e.step∧e.step≤10) (hn:re.length≤100000) :
  Calls Tryz.prog 175 #[v,.func (.func 198) #[] #[.pointer (some ⟨mb,0,none⟩)]] w (SweepPost w1 m re):=by
 have HS:=Lib.hid (sort_any w1 w base v re hown hl hb hbase (by omega))
 have HOW:=Lib.hid hown
 have HL:=Lib.hid hl
 have HB:=Lib.hid hb
 have HR:=Lib.hid hr
 have HT:=Lib.hid hst
 have HC:=Lib.hid hc
 have HN:=Lib.hid hne
 obtain ⟨A,c,rfl,_,_,_⟩:=own_cells evals_len hown rfl
 clear hown hl hb hr hst hc hne
 go_enter Tryz.func175,Tryz.ntmps175
 go_wp2
 refine wp_two (SwJ0 w1 re A re.length c mb m) (SwJ1 w1 re A re.length c mb m) (SwM0 re.length) (SwM1 re.length) rfl rfl ?_ ?_ ?_
 ·intro mm
  refine SwJ1.out ?_
  intro W ws rs i T set out lo bc cu was u11 u14 u15 u16 u17 u18 u19 u20 u21 u22 u23 u24 u25 u26 u27 u28 u29 u30 u31 u32 u33 u34 u35 u36 u37 u38 u39 u40 u41 u42 u43 u44 u45 u46 u47 u48 u49 u50 u51 u52 u53 u54 u55 u56 u57 u58 u59 u60 u61 u62 u63 u64 u65 u66 u67 u68 u69 u70 u71 u72 u73 hfix hat hlt hcb htg hcl0 hcr0 heq hmm
  have hmm2:mm=2 * (re.length - i):=by rw [← hmm]; simp [SwM1,intOf]
  clear hmm
  have HF:=Lib.hid hfix
  have HA:=Lib.hid hat
  have HK:=Lib.hid hcb
  have HTG:=Lib.hid htg
  have HCL:=Lib.hid hcl0
  have HCR:=Lib.hid hcr0
  have HE:=Lib.hid heq
  have hsm:=hfix.small
  have hlo:=hat.lo10
  have hhi:=hat.hi10
  have hol:=hat.len
  have hzl:=hat.lob.1
  have hzc:=hcb.1
  clear hfix hat heq hcb hcl0 hcr0 htg
  obtain ⟨g,rfl,hgl,hcl⟩:=HF.out.cells (by omega)
  have hgl2:g<W.heap.size:=Nat.lt_of_lt_of_le hgl HA.out.bel.size
  have hml:mb<W.heap.size:=Nat.lt_of_lt_of_le HF.out.mbl HA.out.bel.size
  have HMC:Hid (W.cell? ⟨mb,0,none⟩=some (.int .i64 m)):=(HA.out.bel.cell (p:=⟨mb,0,none⟩) HF.out.mbl).trans HF.out.mbc
  have HCE:=Lib.hid (fun j hj q u hu=>(HA.out.bel.cell (p:=⟨g,0+j * 7+q,none⟩) hgl).trans (hcl j hj q u hu))
  clear hcl
  obtain ⟨z0,z1,z2,z3,z4,z5,z6⟩:=ed_cells (w:=W) (g:=g) (n:=re.length) (l:=rs) HCE.out hlt
  have HD:=Lib.hid (drop_ed rs i (by rw [HF.out.len]; exact hlt))
  have hst:=HF.out.step _ (getE_mem (l:=rs) (k:=i) (by rw [HF.out.len]; exact hlt))
  obtain ⟨hst1,hst2⟩:=hst
  generalize rs.getD i default=e1 at z0 z1 z2 z3 z4 z5 z6 HD hst1 hst2
  have HE1:Hid (sweepL m (rs.map REdge.edge)=out.map RSp.sp ++ go m cu.cut was T lo.cut (e1.edge :: (rs.drop (i+1)).map REdge.edge)):=by rw [← HD.out]; exact HE.out
  clear HE HD
  by_cases hnx:i+1<re.length
  ·obtain ⟨y0',y1',y2',y3',y4',y5',y6'⟩:=ed_cells (w:=W) (g:=g) (n:=re.length) (l:=rs) HCE.out hnx
   have HX2:Hid (Lies w1 (rs.getD (i+1) default).cut):=HF.out.lies _ (getE_mem (by rw [HF.out.len]; exact hnx))
   have HD2:=Lib.hid (drop_ed rs (i+1) (by rw [HF.out.len]; exact hnx))
   generalize rs.getD (i+1) default=e2 at y0' y1' y2' y3' y4' y5' y6' HX2 HD2
   obtain ⟨_,_,x0,x1,x2,x3,x4,x5⟩:=HK.out
   go_upto_region 10 with (fail)
   have hd1:decide ((i:Int)+1<(re.length:Int))=true:=decide_eq_true (by omega)
   have hd2:(i:Int)+1<(re.length:Int):=by omega
   have hd3:((i:Int)+1).toNat=i+1:=by omega
   have hd4:0≤(i:Int)+1:=by omega
   go_still_tail 11,(by kernel_rfl)
   change wpList _ _ _ _ _ W.drew
   have HA2:=Lib.hid (HA.out.kept (Below.refl W.heap.size W).drew)
   have HK2:=Lib.hid HK.out.drew
   have HTG2:Hid (Tag W.drew bc):=HTG.out
   have HMC2:Hid (W.drew.cell? ⟨mb,0,none⟩=some (.int .i64 m)):=HMC.out
   have hw2:W.drew.heap.size=W.heap.size:=rfl
   clear z0 z1 z2 z3 z4 z5 z6 x0 x1 x2 x3 x4 x5 y0' y1' y2' y3' y4' y5' y6' hd1 hd2 hd3 hd4 HCE
   generalize W.drew=W2 at HA2 HK2 HTG2 HMC2 hw2 ⊢
   have HO2:=Lib.hid (HF.out.old.trans (HA2.out.bel.mono HF.out.old.size))
   rw [← hw2] at hml hzl hzc
   clear HA HK HTG HMC hw2 hgl2
   go_wp2_with fail
   refine (stand_any cu e2.cut _ (HCL.out.kept HO2.out) (HX2.out.kept HO2.out)).mono ?_
   rintro e Wc ⟨rfl,hb3⟩
   have HA1:=Lib.hid ((HA2.out.kept hb3).step hst1 hst2 hlt)
   have HK1:=Lib.hid (HK2.out.kept hb3 hzc)
   have HTG1:=Lib.hid (HTG2.out.kept hb3 hzc)
   have HMC1:Hid (Wc.cell? ⟨mb,0,none⟩=some (.int .i64 m)):=(hb3.cell (p:=⟨mb,0,none⟩) hml).trans HMC2.out
   have HO1:=Lib.hid (HO2.out.trans (hb3.mono HO2.out.size))
   replace hzl:=Nat.lt_of_lt_of_le hzl hb3.size
   replace hzc:=Nat.lt_of_lt_of_le hzc hb3.size
   clear hb3 HA2 HK2 HTG2 HMC2 HO2 hml
   obtain ⟨st,hst⟩:∃ st,stand cu.cut e2.cut.cut=st:=⟨_,rfl⟩
   rw [hst]
   have HST:=Lib.hid hst
   clear hst
   by_cases hz:st=0
   ·have HE2:Hid (sweepL m (rs.map REdge.edge)=out.map RSp.sp ++ go m cu.cut was (T+e1.step) lo.cut ((rs.drop (i+1)).map REdge.edge)):=by
     unfold Hid
     rw [HE1.out,HD2.out,go_like (show stand cu.cut e2.edge.cut=0 from HST.out.trans hz)]; rfl
    subst hz
    clear HE1
    go_wp2
    go_step3
    rw [show ((i:Int)+1)=((i+1:Nat):Int) from rfl]
    exact .inr ⟨rfl,SwJ1.mk ws rs (i+1) (T+e1.step) set out lo bc cu was HF.out HA1.out hnx HK1.out HTG1.out HCL.out HCR.out HE2.out rfl,by rw [hmm2]; simp [SwM1,intOf]; omega⟩
   ·have hn1:(st == 0)=false:=by simp [hz]
    have HEN:Hid (Ends cu.cut ((rs.drop (i+1)).map REdge.edge)):=.inr ⟨_,_,HD2.out,fun h=>hz (HST.out.symm.trans h)⟩
    clear hz HD2
    go_wp2_with fail
    refine (in_any (T+e1.step) m mb _ HMC1.out).mono ?_
    rintro e w' ⟨rfl,rfl⟩
    clear HMC1
    obtain ⟨_,hf,x0,x1,x2,x3,x4,x5⟩:=HA1.out.lob
    obtain ⟨_,_,y0,y1,y2,y3,y4,y5⟩:=HK1.out
    by_cases hmt:m≤T+e1.step
    ·rw [decide_eq_true hmt]
     cases was
     ·have HE2:Hid (sweepL m (rs.map REdge.edge)=out.map RSp.sp ++ nextL m (T+e1.step) cu.cut ((rs.drop (i+1)).map REdge.edge)):=by
       unfold Hid
       rw [HE1.out,go_open_ HEN.out hmt]; rfl
      have HA3:=Lib.hid (HA1.out.setlo cu HCL.out HCR.out)
      clear HE1 hmt
      go_wp2
      go_step3
      rw [show ((i:Int)+1)=((i+1:Nat):Int) from rfl]
      exact .inl ⟨rfl,SwJ0.mk ws rs (i+1) (T+e1.step) set out cu HF.out HA3.out HE2.out rfl,by rw [hmm2]; simp [SwM0,intOf]; omega⟩
     ·have HE2:Hid (sweepL m (rs.map REdge.edge)=out.map RSp.sp ++ nextL m (T+e1.step) lo.cut ((rs.drop (i+1)).map REdge.edge)):=by
       unfold Hid
       rw [HE1.out,go_same HEN.out (decide_eq_true hmt)]; rfl
      clear HE1 hmt
      go_wp2
      go_step3
      rw [show ((i:Int)+1)=((i+1:Nat):Int) from rfl]
      exact .inl ⟨rfl,SwJ0.mk ws rs (i+1) (T+e1.step) set out lo HF.out HA1.out HE2.out rfl,by rw [hmm2]; simp [SwM0,intOf]; omega⟩
    ·rw [decide_eq_false hmt]
     cases was
     ·have HE2:Hid (sweepL m (rs.map REdge.edge)=out.map RSp.sp ++ nextL m (T+e1.step) lo.cut ((rs.drop (i+1)).map REdge.edge)):=by
       unfold Hid
       rw [HE1.out,go_same HEN.out (decide_eq_false hmt)]; rfl
      clear HE1 hmt
      go_wp2
      go_step3
      rw [show ((i:Int)+1)=((i+1:Nat):Int) from rfl]
      exact .inl ⟨rfl,SwJ0.mk ws rs (i+1) (T+e1.step) set out lo HF.out HA1.out HE2.out rfl,by rw [hmm2]; simp [SwM0,intOf]; omega⟩
     ·have HE2:Hid (sweepL m (rs.map REdge.edge)=out.map RSp.sp ++ (⟨lo.cut,cu.cut⟩ :: nextL m (T+e1.step) lo.cut ((rs.drop (i+1)).map REdge.edge))):=by
       unfold Hid
       rw [HE1.out,go_shut HEN.out hmt]; rfl
      clear HE1 hmt
      go_upto_region 15 with (fail)
      have B0:=Lib.hid ((Below.refl Wc.heap.size Wc).drew)
      refine wp_region_held_drew (S:=fun w'=>Below (ws.heap.size+1) Wc w'∧At6B w' bc cu.kind cu.v.a cu.v.b cu.v.c (.slice cu.A cu.v.pre.length cu.c) (.slice cu.B cu.v.build.length cu.d)) (by kernel_rfl) ⟨B0.out.mono hzl,HK1.out.drew⟩ (fun hHeld=>?_)
      refine tk 0 rfl set ?_
      refine tk 1 rfl lo ?_ fun w' hS'=>by have q0:=(hS'.1.cell (p:=⟨ws.heap.size,0,none⟩) (Nat.lt_succ_self _)).trans x0; have q1:=(hS'.1.cell (p:=⟨ws.heap.size,1,none⟩) (Nat.lt_succ_self _)).trans x1; have q2:=(hS'.1.cell (p:=⟨ws.heap.size,2,none⟩) (Nat.lt_succ_self _)).trans x2; have q3:=(hS'.1.cell (p:=⟨ws.heap.size,3,none⟩) (Nat.lt_succ_self _)).trans x3; have q4:=(hS'.1.cell (p:=⟨ws.heap.size,4,none⟩) (Nat.lt_succ_self _)).trans x4; have q5:=(hS'.1.cell (p:=⟨ws.heap.size,5,none⟩) (Nat.lt_succ_self _)).trans x5; go_simp
      refine tk 3 rfl cu ?_ fun w' hS'=>by obtain ⟨_,_,_,q0,q1,q2,q3,q4,q5⟩:=hS'; go_simp
      refine cl 2 rfl fun K hK=>?_
      go_simp
      refine (copied_any lo _ ((HA1.out.lies.kept HO1.out).kept B0.out) (Nat.le_trans HA1.out.few (by omega))).mono ?_
      rintro e w5 ⟨lo',rfl,hlo5,ho5,hb5⟩
      have B5:=Lib.hid (B0.out.trans (hb5.mono B0.out.size))
      have O5:=Lib.hid (ho5.mono (Nat.le_trans hzl B0.out.size))
      have E5:=Lib.hid hlo5
      clear ho5 hb5 hlo5 hHeld
      refine hK.out _ _ ⟨B5.out.mono hzl,HK1.out.kept B5.out hzc⟩ (fun hHeld=>?_)
      clear hK K
      try simp only [Act.put,p1,p2,p3]
      refine cl 4 rfl fun K hK=>?_
      go_simp
      refine (copied_any cu _ ((HCL.out.kept HO1.out).kept B5.out) (Nat.le_trans (right_few HCR.out).1 (by omega))).mono ?_
      rintro e w6 ⟨cu',rfl,hcu6,ho6,hb6⟩
      have B6:=Lib.hid (B5.out.trans (hb6.mono B5.out.size))
      have O6:=Lib.hid (ho6.mono (Nat.le_trans hzl B5.out.size))
      have P6:=Lib.hid (O5.out.kept hb6)
      have E6:=Lib.hid hcu6
      clear ho6 hb6 hcu6 hHeld
      refine hK.out _ _ ⟨B6.out.mono hzl,HK1.out.kept B6.out hzc⟩ (fun hHeld=>?_)
      clear hK K
      try simp only [Act.put,p1,p2,p3]
      refine tk 5 rfl (lo',cu') ?_
      have A7:=Lib.hid ((Below.refl w6.heap.size w6).alloc (Nat.le_refl _) (lo',cu'))
      have B7:=Lib.hid (B6.out.trans (A7.out.mono B6.out.size))
      refine cl 6 rfl fun K hK=>?_
      go_simp
      refine hK.out _ _ ⟨B7.out.mono hzl,HK1.out.kept B7.out hzc⟩ (fun hHeld=>?_)
      clear hK K
      try simp only [Act.put,p1,p2,p3]
      obtain ⟨v8,w8,hrun,ho8,hg8⟩:=run_append_sp (w6.alloc (lo',cu')) 129 (ws.heap.size+1) set out.length out (own_below HA1.out.own B7.out) ⟨w6.heap.size,0,none⟩ 1 1 [⟨lo',cu'⟩] rfl (news_new w6 _ _) (by omega) (Nat.le_trans hzl B7.out.size)
      have HA8:=Lib.hid (HA1.out.more (s:=⟨lo',cu'⟩) B7.out (P6.out.kept A7.out) (O6.out.kept A7.out) hg8 ho8 (by omega))
      have K8:Hid (At6B w8 bc cu.kind cu.v.a cu.v.b cu.v.c (.slice cu.A cu.v.pre.length cu.c) (.slice cu.B cu.v.build.length cu.d)):=(HK1.out.kept B7.out hzc).grown hg8 ((HTG1.out.kept B7.out hzc).apart (own_below HA1.out.own B7.out))
      have B8:Hid (Below (ws.heap.size+1) Wc w8):=(B7.out.mono hzl).grown hg8 (Nat.le_trans hzl B7.out.size) (fun k hk=>(HA1.out.own.lt k hk).1)
      have HE3:Hid (sweepL m (rs.map REdge.edge)=(out ++ [(⟨lo',cu'⟩:RSp)]).map RSp.sp ++ nextL m (T+e1.step) lo.cut ((rs.drop (i+1)).map REdge.edge)):=by
       unfold Hid
       have e5:lo'.cut=lo.cut:=by rw [E5.out,HA1.out.bare]; rfl
       have e6:cu'.cut=cu.cut:=by rw [E6.out]; show (⟨cu.kind,bare cu.cut.v⟩:Cut)=_; rw [right_bare HCR.out]; rfl
       rw [HE2.out,List.map_append,List.append_assoc]; show _=_ ++ ([Sp.mk lo'.cut cu'.cut] ++ _); rw [e5,e6]; rfl
      clear ho8 hg8 hHeld HE2
      refine cl 7 rfl fun K hK=>?_
      refine region_append_sp (by rfl) _ _ rfl rfl rfl hrun ?_
      refine hK.out _ _ ⟨B8.out,K8.out⟩ (fun hHeld=>?_)
      clear hK K hrun
      try simp only [Act.put,p1,p2,p3]
      refine tk 8 rfl v8 ?_
      refine wpAnyH_done (by kernel_rfl) ?_ _
      clear hHeld
      go_wp2
      go_step3
      rw [show ((i:Int)+1)=((i+1:Nat):Int) from rfl]
      exact .inl ⟨rfl,SwJ0.mk ws rs (i+1) (T+e1.step) v8 (out ++ [⟨lo',cu'⟩]) lo HF.out HA8.out HE3.out rfl,by rw [hmm2]; simp [SwM0,intOf]; omega⟩
  ·have HEN:Hid (Ends cu.cut ((rs.drop (i+1)).map REdge.edge)):=.inl (by rw [List.drop_eq_nil_of_le (by rw [HF.out.len]; omega)]; rfl)
   obtain ⟨_,_,x0,x1,x2,x3,x4,x5⟩:=HK.out
   go_upto_region 10 with (fail)
   have hd1:decide ((i:Int)+1<(re.length:Int))=false:=decide_eq_false (by omega)
   have hd2:(re.length:Int)≤(i:Int)+1:=by omega
   refine wp_region_held_drew (S:=fun w'=>Below W.heap.size W w') (by kernel_rfl) (Below.refl _ _).drew (fun hHeld=>?_)
   refine tk 0 rfl (.int .i64 ((i:Int)+1)) ?_
   refine tk 1 rfl (.slice (some ⟨g,0,none⟩) re.length c) ?_
   refine tk 2 rfl (.int .i64 re.length) ?_
   refine tk 3 rfl (.bool false) ?_
   refine tk 4 rfl (.bool false) ?_
   refine sk 5 rfl ?_
   refine sk 6 rfl ?_
   refine sk 7 rfl ?_
   refine sk 8 rfl ?_
   refine sk 9 rfl ?_
   refine sk 10 rfl ?_
   refine sk 11 rfl ?_
   refine sk 12 rfl ?_
   refine tk 13 rfl (.bool false) ?_
   refine wpAnyH_done (by kernel_rfl) ?_ _
   clear hHeld
   change Exit.then _ _ _ _ W.drew
   have HA1:=Lib.hid ((HA.out.kept (Below.refl W.heap.size W).drew).step hst1 hst2 hlt)
   have HK1:=Lib.hid HK.out.drew
   have HTG1:Hid (Tag W.drew bc):=HTG.out
   have HMC1:Hid (W.drew.cell? ⟨mb,0,none⟩=some (.int .i64 m)):=HMC.out
   have hw2:W.drew.heap.size=W.heap.size:=rfl
   clear z0 z1 z2 z3 z4 z5 z6 x0 x1 x2 x3 x4 x5 hd1 hd2 HCE
   generalize W.drew=Wc at HA1 HK1 HTG1 HMC1 hw2 ⊢
   have HO1:=Lib.hid (HF.out.old.trans (HA1.out.bel.mono HF.out.old.size))
   rw [← hw2] at hml hzl hzc
   clear HA HK HTG HMC hw2 hgl2
   go_wp2_with fail
   refine (in_any (T+e1.step) m mb _ HMC1.out).mono ?_
   rintro e w' ⟨rfl,rfl⟩
   clear HMC1
   obtain ⟨_,hf,x0,x1,x2,x3,x4,x5⟩:=HA1.out.lob
   obtain ⟨_,_,y0,y1,y2,y3,y4,y5⟩:=HK1.out
   by_cases hmt:m≤T+e1.step
   ·rw [decide_eq_true hmt]
    cases was
    ·have HE2:Hid (sweepL m (rs.map REdge.edge)=out.map RSp.sp ++ nextL m (T+e1.step) cu.cut ((rs.drop (i+1)).map REdge.edge)):=by
      unfold Hid
      rw [HE1.out,go_open_ HEN.out hmt]; rfl
     have HA3:=Lib.hid (HA1.out.setlo cu HCL.out HCR.out)
     clear HE1 hmt
     go_wp2
     go_step3
     rw [show ((i:Int)+1)=((i+1:Nat):Int) from rfl]
     exact .inl ⟨rfl,SwJ0.mk ws rs (i+1) (T+e1.step) set out cu HF.out HA3.out HE2.out rfl,by rw [hmm2]; simp [SwM0,intOf]; omega⟩
    ·have HE2:Hid (sweepL m (rs.map REdge.edge)=out.map RSp.sp ++ nextL m (T+e1.step) lo.cut ((rs.drop (i+1)).map REdge.edge)):=by
      unfold Hid
      rw [HE1.out,go_same HEN.out (decide_eq_true hmt)]; rfl
     clear HE1 hmt
     go_wp2
     go_step3
     rw [show ((i:Int)+1)=((i+1:Nat):Int) from rfl]
     exact .inl ⟨rfl,SwJ0.mk ws rs (i+1) (T+e1.step) set out lo HF.out HA1.out HE2.out rfl,by rw [hmm2]; simp [SwM0,intOf]; omega⟩
   ·rw [decide_eq_false hmt]
    cases was
    ·have HE2:Hid (sweepL m (rs.map REdge.edge)=out.map RSp.sp ++ nextL m (T+e1.step) lo.cut ((rs.drop (i+1)).map REdge.edge)):=by
      unfold Hid
      rw [HE1.out,go_same HEN.out (decide_eq_false hmt)]; rfl
     clear HE1 hmt
     go_wp2
     go_step3
     rw [show ((i:Int)+1)=((i+1:Nat):Int) from rfl]
     exact .inl ⟨rfl,SwJ0.mk ws rs (i+1) (T+e1.step) set out lo HF.out HA1.out HE2.out rfl,by rw [hmm2]; simp [SwM0,intOf]; omega⟩
    ·have HE2:Hid (sweepL m (rs.map REdge.edge)=out.map RSp.sp ++ (⟨lo.cut,cu.cut⟩ :: nextL m (T+e1.step) lo.cut ((rs.drop (i+1)).map REdge.edge))):=by
      unfold Hid
      rw [HE1.out,go_shut HEN.out hmt]; rfl
     clear HE1 hmt
     go_upto_region 15 with (fail)
     have B0:=Lib.hid ((Below.refl Wc.heap.size Wc).drew)
     refine wp_region_held_drew (S:=fun w'=>Below (ws.heap.size+1) Wc w'∧At6B w' bc cu.kind cu.v.a cu.v.b cu.v.c (.slice cu.A cu.v.pre.length cu.c) (.slice cu.B cu.v.build.length cu.d)) (by kernel_rfl) ⟨B0.out.mono hzl,HK1.out.drew⟩ (fun hHeld=>?_)
     refine tk 0 rfl set ?_
     refine tk 1 rfl lo ?_ fun w' hS'=>by have q0:=(hS'.1.cell (p:=⟨ws.heap.size,0,none⟩) (Nat.lt_succ_self _)).trans x0; have q1:=(hS'.1.cell (p:=⟨ws.heap.size,1,none⟩) (Nat.lt_succ_self _)).trans x1; have q2:=(hS'.1.cell (p:=⟨ws.heap.size,2,none⟩) (Nat.lt_succ_self _)).trans x2; have q3:=(hS'.1.cell (p:=⟨ws.heap.size,3,none⟩) (Nat.lt_succ_self _)).trans x3; have q4:=(hS'.1.cell (p:=⟨ws.heap.size,4,none⟩) (Nat.lt_succ_self _)).trans x4; have q5:=(hS'.1.cell (p:=⟨ws.heap.size,5,none⟩) (Nat.lt_succ_self _)).trans x5; go_simp
     refine tk 3 rfl cu ?_ fun w' hS'=>by obtain ⟨_,_,_,q0,q1,q2,q3,q4,q5⟩:=hS'; go_simp
     refine cl 2 rfl fun K hK=>?_
     go_simp
     refine (copied_any lo _ ((HA1.out.lies.kept HO1.out).kept B0.out) (Nat.le_trans HA1.out.few (by omega))).mono ?_
     rintro e w5 ⟨lo',rfl,hlo5,ho5,hb5⟩
     have B5:=Lib.hid (B0.out.trans (hb5.mono B0.out.size))
     have O5:=Lib.hid (ho5.mono (Nat.le_trans hzl B0.out.size))
     have E5:=Lib.hid hlo5
     clear ho5 hb5 hlo5 hHeld
     refine hK.out _ _ ⟨B5.out.mono hzl,HK1.out.kept B5.out hzc⟩ (fun hHeld=>?_)
     clear hK K
     try simp only [Act.put,p1,p2,p3]
     refine cl 4 rfl fun K hK=>?_
     go_simp
     refine (copied_any cu _ ((HCL.out.kept HO1.out).kept B5.out) (Nat.le_trans (right_few HCR.out).1 (by omega))).mono ?_
     rintro e w6 ⟨cu',rfl,hcu6,ho6,hb6⟩
     have B6:=Lib.hid (B5.out.trans (hb6.mono B5.out.size))
     have O6:=Lib.hid (ho6.mono (Nat.le_trans hzl B5.out.size))
     have P6:=Lib.hid (O5.out.kept hb6)
     have E6:=Lib.hid hcu6
     clear ho6 hb6 hcu6 hHeld
     refine hK.out _ _ ⟨B6.out.mono hzl,HK1.out.kept B6.out hzc⟩ (fun hHeld=>?_)
     clear hK K
     try simp only [Act.put,p1,p2,p3]
     refine tk 5 rfl (lo',cu') ?_
     have A7:=Lib.hid ((Below.refl w6.heap.size w6).alloc (Nat.le_refl _) (lo',cu'))
     have B7:=Lib.hid (B6.out.trans (A7.out.mono B6.out.size))
     refine cl 6 rfl fun K hK=>?_
     go_simp
     refine hK.out _ _ ⟨B7.out.mono hzl,HK1.out.kept B7.out hzc⟩ (fun hHeld=>?_)
     clear hK K
     try simp only [Act.put,p1,p2,p3]
     obtain ⟨v8,w8,hrun,ho8,hg8⟩:=run_append_sp (w6.alloc (lo',cu')) 129 (ws.heap.size+1) set out.length out (own_below HA1.out.own B7.out) ⟨w6.heap.size,0,none⟩ 1 1 [⟨lo',cu'⟩] rfl (news_new w6 _ _) (by omega) (Nat.le_trans hzl B7.out.size)
     have HA8:=Lib.hid (HA1.out.more (s:=⟨lo',cu'⟩) B7.out (P6.out.kept A7.out) (O6.out.kept A7.out) hg8 ho8 (by omega))
     have K8:Hid (At6B w8 bc cu.kind cu.v.a cu.v.b cu.v.c (.slice cu.A cu.v.pre.length cu.c) (.slice cu.B cu.v.build.length cu.d)):=(HK1.out.kept B7.out hzc).grown hg8 ((HTG1.out.kept B7.out hzc).apart (own_below HA1.out.own B7.out))
     have B8:Hid (Below (ws.heap.size+1) Wc w8):=(B7.out.mono hzl).grown hg8 (Nat.le_trans hzl B7.out.size) (fun k hk=>(HA1.out.own.lt k hk).1)
     have HE3:Hid (sweepL m (rs.map REdge.edge)=(out ++ [(⟨lo',cu'⟩:RSp)]).map RSp.sp ++ nextL m (T+e1.step) lo.cut ((rs.drop (i+1)).map REdge.edge)):=by
      unfold Hid
      have e5:lo'.cut=lo.cut:=by rw [E5.out,HA1.out.bare]; rfl
      have e6:cu'.cut=cu.cut:=by rw [E6.out]; show (⟨cu.kind,bare cu.cut.v⟩:Cut)=_; rw [right_bare HCR.out]; rfl
      rw [HE2.out,List.map_append,List.append_assoc]; show _=_ ++ ([Sp.mk lo'.cut cu'.cut] ++ _); rw [e5,e6]; rfl
     clear ho8 hg8 hHeld HE2
     refine cl 7 rfl fun K hK=>?_
     refine region_append_sp (by rfl) _ _ rfl rfl rfl hrun ?_
     refine hK.out _ _ ⟨B8.out,K8.out⟩ (fun hHeld=>?_)
     clear hK K hrun
     try simp only [Act.put,p1,p2,p3]
     refine tk 8 rfl v8 ?_
     refine wpAnyH_done (by kernel_rfl) ?_ _
     clear hHeld
     go_wp2
     go_step3
     rw [show ((i:Int)+1)=((i+1:Nat):Int) from rfl]
     exact .inl ⟨rfl,SwJ0.mk ws rs (i+1) (T+e1.step) v8 (out ++ [⟨lo',cu'⟩]) lo HF.out HA8.out HE3.out rfl,by rw [hmm2]; simp [SwM0,intOf]; omega⟩
 ·intro HP
  intro mm
  refine SwJ0.out ?_
  intro W ws rs i T set out lo u9 u10 u11 u14 u15 u16 u17 u18 u19 u20 u21 u22 u23 u24 u25 u26 u27 u28 u29 u30 u31 u32 u33 u34 u35 u36 u37 u38 u39 u40 u41 u42 u43 u44 u45 u46 u47 u48 u49 u50 u51 u52 u53 u54 u55 u56 u57 u58 u59 u60 u61 u62 u63 u64 u65 u66 u67 u68 u69 u70 u71 u72 u73 hfix hat heq hmm
  have hmm2:mm=2 * (re.length - i)+1:=by rw [← hmm]; simp [SwM0,intOf]
  clear hmm
  have HF:=Lib.hid hfix
  have HA:=Lib.hid hat
  have HE:=Lib.hid heq
  have hi:=hat.ile
  have hsm:=hfix.small
  clear hfix hat heq
  by_cases hlt:i<re.length
  ·have e0:((i:Int) == (re.length:Int))=false:=by rw [beq_eq_false_iff_ne]; omega
   go_upto_region 7 with (fail)
   obtain ⟨g,rfl,hgl,hcl⟩:=HF.out.cells (by omega)
   obtain ⟨z0,z1,z2,z3,z4,z5,z6⟩:=ed_cells (w:=W) (g:=g) (n:=re.length) (l:=rs) (fun j hj q u hu=>(HA.out.bel.cell (p:=⟨g,0+j * 7+q,none⟩) hgl).trans (hcl j hj q u hu)) hlt
   have hmc:W.cell? ⟨mb,0,none⟩=some (.int .i64 m):=(HA.out.bel.cell (p:=⟨mb,0,none⟩) HF.out.mbl).trans HF.out.mbc
   clear hcl
   have HX:Hid (Lies w1 (rs.getD i default).cut∧right (rs.getD i default).cut.cut=true):=⟨HF.out.lies _ (getE_mem (by rw [HF.out.len]; exact hlt)),HF.out.right _ (getE_mem (by rw [HF.out.len]; exact hlt))⟩
   have HE1:Hid (sweepL m (rs.map REdge.edge)=out.map RSp.sp ++ go m (rs.getD i default).cut.cut (decide (m≤T)) T lo.cut ((rs.drop i).map REdge.edge)):=by
    unfold Hid; rw [HE.out,drop_ed rs i (by rw [HF.out.len]; exact hlt)]; rfl
   generalize rs.getD i default=e1 at z0 z1 z2 z3 z4 z5 z6 HX HE1
   have hml:mb<W.heap.size:=Nat.lt_of_lt_of_le HF.out.mbl HA.out.bel.size
   have hgl2:g<W.heap.size:=Nat.lt_of_lt_of_le hgl HA.out.bel.size
   refine wp_region_held_drew (S:=fun w'=>Below W.heap.size W w') (by kernel_rfl) (Below.refl _ _).drew (fun hHeld=>?_)
   refine tk 0 rfl (.slice (some ⟨g,0,none⟩) re.length c) ?_
   refine tk 1 rfl (.int .i64 i) ?_
   refine tk 2 rfl (.pointer (some ⟨g,i * 7,none⟩)) ?_
   refine tk 3 rfl (.pointer (some ⟨g,i * 7,none⟩)) ?_
   refine tk 4 rfl e1.cut ?_ fun w' hS'=>by have q0:=(hS'.cell (p:=⟨g,i * 7,none⟩) hgl2).trans z0; have q1:=(hS'.cell (p:=⟨g,i * 7+1,none⟩) hgl2).trans z1; have q2:=(hS'.cell (p:=⟨g,i * 7+2,none⟩) hgl2).trans z2; have q3:=(hS'.cell (p:=⟨g,i * 7+3,none⟩) hgl2).trans z3; have q4:=(hS'.cell (p:=⟨g,i * 7+4,none⟩) hgl2).trans z4; have q5:=(hS'.cell (p:=⟨g,i * 7+5,none⟩) hgl2).trans z5; go_simp
   refine tk 5 rfl (.func (.func 198) #[] #[.pointer (some ⟨mb,0,none⟩)]) ?_
   refine tk 6 rfl (.int .i64 T) ?_
   refine wpAnyH_ready (rs:=[7,8]) (by kernel_rfl) (by simp) ?_
   refine AllReadyH.cons (nth_ops (i:=7) rfl) (fun K hK=>?_) (AllReadyH.cons (nth_ops (i:=8) rfl) (fun K hK=>?_) AllReadyH.nil)
   ·go_simp
    refine (in_any T m mb _ ((hHeld.cell (p:=⟨mb,0,none⟩) hml).trans hmc)).mono ?_
    rintro e w2 ⟨rfl,rfl⟩
    refine hK.out _ _ hHeld (fun hHeld=>?_)
    clear hK K
    try simp only [Act.put,p1,p2,p3]
    refine cl 8 rfl fun K hK=>?_
    go_simp
    refine hK.out _ _ (((Below.refl W.heap.size W).alloc (Nat.le_refl _) _).drew) (fun hHeld=>?_)
    clear hK K
    try simp only [Act.put,p1,p2,p3]
    refine cl 9 rfl fun K hK=>?_
    go_simp
    refine hK.out _ _ (((Below.refl W.heap.size W).alloc (Nat.le_refl _) _).drew) (fun hHeld=>?_)
    clear hK K
    try simp only [Act.put,p1,p2,p3]
    refine tk 10 rfl (.bool (decide (m≤T))) ?_
    refine wpAnyH_done (by kernel_rfl) ?_ _
    clear hHeld
    go_wp2
    go_step3
    rename_i hK
    exact hK _ _ (HP.out _ _ _ (SwJ1.mk ws rs i T set out lo W.heap.size e1.cut (decide (m≤T)) HF.out (HA.out.kept (((Below.refl W.heap.size W).alloc (Nat.le_refl _) _).drew)) hlt (At6B.drew (At6B.new W _ _ _ _ _ _ _)) (Tag.new W _) HX.out.1 HX.out.2 HE1.out rfl) (by rw [hmm2]; simp [SwM1,intOf]))
   ·go_simp
    refine hK.out _ _ (((Below.refl W.heap.size W).alloc (Nat.le_refl _) _).drew) (fun hHeld=>?_)
    clear hK K
    try simp only [Act.put,p1,p2,p3]
    refine cl 7 rfl fun K hK=>?_
    go_simp
    refine (in_any T m mb _ ((hHeld.cell (p:=⟨mb,0,none⟩) hml).trans hmc)).mono ?_
    rintro e w2 ⟨rfl,rfl⟩
    refine hK.out _ _ hHeld (fun hHeld=>?_)
    clear hK K
    try simp only [Act.put,p1,p2,p3]
    refine cl 9 rfl fun K hK=>?_
    go_simp
    refine hK.out _ _ (((Below.refl W.heap.size W).alloc (Nat.le_refl _) _).drew) (fun hHeld=>?_)
    clear hK K
    try simp only [Act.put,p1,p2,p3]
    refine tk 10 rfl (.bool (decide (m≤T))) ?_
    refine wpAnyH_done (by kernel_rfl) ?_ _
    clear hHeld
    go_wp2
    go_step3
    rename_i hK
    exact hK _ _ (HP.out _ _ _ (SwJ1.mk ws rs i T set out lo W.heap.size e1.cut (decide (m≤T)) HF.out (HA.out.kept (((Below.refl W.heap.size W).alloc (Nat.le_refl _) _).drew)) hlt (At6B.drew (At6B.new W _ _ _ _ _ _ _)) (Tag.new W _) HX.out.1 HX.out.2 HE1.out rfl) (by rw [hmm2]; simp [SwM1,intOf]))
  ·have e0:((i:Int) == (re.length:Int))=true:=by rw [beq_iff_eq]; omega
   have HE2:Hid (out.map RSp.sp=sweepL m (rs.map REdge.edge)):=by
    unfold Hid
    rw [HE.out,List.drop_eq_nil_of_le (by rw [HF.out.len]; omega)]; simp [nextL]
   go_wp2
   simp only [jumps]
   exact bodyPost_ret (v:=set) (by simp [results,Tryz.results175,go_sem]) rfl ⟨ws.heap.size+1,set,out,rs,rfl,HF.out.perm,HF.out.sorted,HE2.out,Nat.le_succ_of_le HF.out.old.size,HA.out.own,HA.out.cuts,Nat.le_trans HA.out.len hi,HF.out.old.trans (HA.out.bel.mono HF.out.old.size)⟩
 ·intro HP
  go_wp2_with fail
  refine HS.out.mono ?_
  rintro e ws ⟨rfl,rs,hp,hpw,ho,hg⟩
  have HFX:Hid (SwFix w1 re A re.length mb m ws rs):=by
   have hln:=hp.length_eq
   obtain ⟨A',c',e',_,_,hcell⟩:=own_cells evals_len ho rfl
   injection e' with e1 e2 e3
   subst e1
   refine ⟨hp,hpw,hln,hn,fun e he=>HL.out e (hp.mem_iff.1 he),fun e he=>HR.out e (hp.mem_iff.1 he),fun e he=>HT.out e (hp.mem_iff.1 he),fun h0=>?_,Nat.lt_of_lt_of_le hmb hg.size,hg.cell HC.out (Ne.symm HN.out),HB.out.grown hg HB.out.size (fun k hk=>Nat.le_trans hbase (HOW.out.lt k hk).1)⟩
   obtain ⟨g,hg1,_,hg2,_,hg3⟩:=hcell (by rw [hln]; exact h0)
   exact ⟨g,hg1,hg2,by rw [← hln]; exact hg3⟩
  have HAT:Hid (SwAt w1 ws re.length 0 0 (.slice none 0 0) [] rlow (ws.alloc true)) :=
   {bel:=(Below.refl _ _).alloc (Nat.le_refl _) _,lob:=At6B.new ws _ _ _ _ _ _ _,own:=World.ownsRow_nil _ _ _ _,cuts:=(fun s hs=>by cases hs),lies:=Lies.low w1,bare:=rfl,few:=Nat.zero_le _,len:=Nat.le_refl _,lo10:=by omega,hi10:=by omega,ile:=Nat.zero_le _ }
  have HEQ:Hid (sweepL m (rs.map REdge.edge)=([]:List RSp).map RSp.sp ++ nextL m 0 rlow.cut ((rs.drop 0).map REdge.edge)):=sweepL_next m _
  clear HS hp hpw ho hg
  go_wp2
  go_step3
  rename_i hK
  exact hK _ _ (HP.out _ _ (SwJ0.mk ws rs 0 0 (.slice none 0 0) [] rlow HFX.out HAT.out HEQ.out rfl))
end Go.Proofs.YtneilnibghhgmaaGreatDoor.Span
namespace Go.Proofs.YtneilnibghhgmaaGreatDoor.Range
open Go.RowKit Num Ident Semver
theorem fits_ver {k:Int} {v:Ver} {n:Nat} (h:ofVersion k=true):fits k v n=(goodV v && decide (n=0)):=by unfold fits; rw [if_pos h]
theorem fits_un {k:Int} {v:Ver} {n:Nat} (h:ofVersion k=false) (h2:sameV v noVer=false):fits k v n=false:=by unfold fits; rw [if_neg (by simp [h]),if_pos h2]
theorem fits_zero {k:Int} {v:Ver} {n:Nat} (h:ofVersion k=false) (h2:sameV v noVer=true):fits k v n=if k=0 then decide (n=0) else if k=9∨k=10 then decide (2≤n) else if k=11 then decide (n=1) else false:=by
 unfold fits; rw [if_neg (by simp [h]),if_neg (by simp [h2])]
theorem fits_full (x:RV) (w:World) (hr1:SRow w x.A x.v.pre.length x.v.pre) (hr2:SRow w x.B x.v.build.length x.v.build) (hf:FitV x.v) :
  Calls Tryz.prog 142 #[x.agg] w fun e w'=>e=.returned (.bool (fits x.kind x.v x.n))∧Below w.heap.size w w':=by
 have HB:Hid (Below w.heap.size w (w.alloc x)):=(Below.refl _ _).alloc (Nat.le_refl _) _
 have HRA:Hid (RAt (w.alloc x) w.heap.size x):=RAt.new w _ x
 have HR1:=Lib.hid (hr1.kept HB.out)
 have HR2:=Lib.hid (hr2.kept HB.out)
 have HF:=Lib.hid hf
 clear hr1 hr2 hf
 unfold RV.agg
 generalize hR:fits x.kind x.v x.n=R
 have HR:=Lib.hid hR
 clear hR
 go_enter Tryz.func142,Tryz.ntmps142
 go_upto_region 1 with (fail)
 generalize w.alloc x=W at HB HRA HR1 HR2 ⊢
 obtain ⟨y1,y2,c0,c1,c2,c3,c4,c5,c6⟩:=HRA.out
 cases hov:ofVersion x.kind with
 | true =>
  have HOV:=Lib.hid hov
  have HE:Hid (R=(goodV x.v && decide (x.n=0))):=by unfold Hid; rw [← HR.out]; exact fits_ver hov
  clear hov HR
  go_wp2_with fail
  refine (ofVersion_any x.kind W).mono ?_
  rintro e w' ⟨rfl,rfl⟩
  rw [HOV.out]
  go_wp2_with fail
  refine (vgood_any x.v x.A x.c x.B x.d w' HR1.out HR2.out HF.out.pre HF.out.build HF.out.pres HF.out.builds).mono ?_
  rintro e W2 ⟨rfl,hb⟩
  have HB2:=Lib.hid (HB.out.trans (hb.mono HB.out.size))
  have HRA2:=Lib.hid (HRA.out.kept hb HRA.out.1)
  clear hb y1 y2 c0 c1 c2 c3 c4 c5 c6
  obtain ⟨y1,y2,c0,c1,c2,c3,c4,c5,c6⟩:=HRA2.out
  cases hgv:goodV x.v with
  | true =>
   by_cases hn:x.n=0
   ·obtain rfl:R=true:=by rw [HE.out,hgv,hn]; rfl
    rw [hn] at c6
    clear HE hgv hn
    go_wp2; go_ret
    exact ⟨rfl,HB2.out⟩
   ·obtain rfl:R=false:=by rw [HE.out,decide_eq_false hn,Bool.and_false]
    have q0:((x.n:Int) == 0)=false:=beq_eq_false_iff_ne.2 (by omega)
    clear hn HE hgv
    go_wp2; go_ret
    exact ⟨rfl,HB2.out⟩
  | false =>
   obtain rfl:R=false:=by rw [HE.out,hgv]; rfl
   clear HE hgv
   go_wp2; go_ret
   exact ⟨rfl,HB2.out⟩
 | false =>
  have HOV:=Lib.hid hov
  have HE1:Hid (sameV x.v noVer=false→R=false):=fun h=>by rw [← HR.out]; exact fits_un hov h
  have HE2:Hid (sameV x.v noVer=true→R=if x.kind=0 then decide (x.n=0) else if x.kind=9∨x.kind=10 then decide (2≤x.n) else if x.kind=11 then decide (x.n=1) else false):=fun h=>by rw [← HR.out]; exact fits_zero hov h
  clear hov HR
  go_wp2_with fail
  refine (ofVersion_any x.kind W).mono ?_
  rintro e w' ⟨rfl,rfl⟩
  rw [HOV.out]
  go_wp2_with fail
  refine (same_parts x.A x.v.pre.length x.c x.v.pre x.B x.v.build.length x.d x.v.build none 0 0 [] none 0 0 [] x.v.a x.v.b x.v.c 0 0 0 w' HR1.out HR2.out (srow_none _ _) (srow_none _ _) HF.out.pre HF.out.build (Nat.zero_le _) (Nat.zero_le _)).mono ?_
  rintro e W2 ⟨rfl,hb⟩
  have HB2:=Lib.hid (HB.out.trans (hb.mono HB.out.size))
  have HRA2:=Lib.hid (HRA.out.kept hb HRA.out.1)
  clear hb y1 y2 c0 c1 c2 c3 c4 c5 c6
  obtain ⟨y1,y2,c0,c1,c2,c3,c4,c5,c6⟩:=HRA2.out
  have HS:Hid (sameV ⟨x.v.a,x.v.b,x.v.c,x.v.pre,x.v.build⟩ ⟨0,0,0,[],[]⟩=sameV x.v noVer):=rfl
  rw [HS.out]
  cases hsv:sameV x.v noVer with
  | false =>
   obtain rfl:=HE1.out hsv
   clear hsv HE1 HE2
   go_wp2; go_ret
   exact ⟨rfl,HB2.out⟩
  | true =>
   have hE:=HE2.out hsv
   clear hsv HE1 HE2 HOV HS
   by_cases k0:x.kind=0
   ·rw [if_pos k0] at hE
    rw [k0] at c0
    clear k0
    by_cases hn:x.n=0
    ·obtain rfl:R=true:=by rw [hE,decide_eq_true hn]
     rw [hn] at c6
     clear hE hn
     go_wp2; go_ret
     exact ⟨rfl,HB2.out⟩
    ·have q0:((x.n:Int) == 0)=false:=beq_eq_false_iff_ne.2 (by omega)
     obtain rfl:R=false:=by rw [hE,decide_eq_false hn]
     clear hn hE
     go_wp2; go_ret
     exact ⟨rfl,HB2.out⟩
   ·rw [if_neg k0] at hE
    by_cases k9:x.kind=9∨x.kind=10
    ·rw [if_pos k9] at hE
     by_cases hn:2≤x.n
     ·have hn2:(2:Int)≤(x.n:Int):=by omega
      obtain rfl:R=true:=by rw [hE,decide_eq_true hn]
      clear hn k0 hE
      rcases k9 with k9 | k9 <;> rw [k9] at c0 <;> clear k9 <;> go_wp2 <;> go_ret <;> exact ⟨rfl,HB2.out⟩
     ·have q2:decide ((2:Int)≤(x.n:Int))=false:=decide_eq_false (by omega)
      obtain rfl:R=false:=by rw [hE,decide_eq_false hn]
      clear hn k0 hE
      rcases k9 with k9 | k9 <;> rw [k9] at c0 <;> clear k9 <;> go_wp2 <;> go_ret <;> exact ⟨rfl,HB2.out⟩
    ·rw [if_neg k9] at hE
     by_cases k11:x.kind=11
     ·rw [if_pos k11] at hE
      rw [k11] at c0
      clear k11 k0 k9
      by_cases hn:x.n=1
      ·obtain rfl:R=true:=by rw [hE,decide_eq_true hn]
       rw [hn] at c6
       clear hE hn
       go_wp2; go_ret
       exact ⟨rfl,HB2.out⟩
      ·have q1:((x.n:Int) == 1)=false:=beq_eq_false_iff_ne.2 (by omega)
       obtain rfl:R=false:=by rw [hE,decide_eq_false hn]
       clear hn hE
       go_wp2; go_ret
       exact ⟨rfl,HB2.out⟩
     ·rw [if_neg k11] at hE
      obtain rfl:=hE
      have n9:¬ x.kind=9:=fun h=>k9 (.inl h)
      have n10:¬ x.kind=10:=fun h=>k9 (.inr h)
      have q9:(x.kind == 9)=false:=by simp [n9]
      have q10:(x.kind == 10)=false:=by simp [n10]
      clear k9
      go_wp2; go_ret
      exact ⟨rfl,HB2.out⟩
theorem goodL_at {o:Int} {l:List Rng} {d:Nat}:goodL o l d=true↔∀ j,j<l.length→goodR (l.getD j noRng) (d+opens o (l.getD j noRng).kind)=true:=by
 induction l with
 | nil=>exact ⟨fun _ j hj=>by simp at hj,fun _=>rfl⟩
 | cons y l ih =>
  rw [goodL_cons,Bool.and_eq_true,ih]
  constructor
  ·rintro ⟨h1,h2⟩ j hj
   cases j with
   | zero=>exact h1
   | succ j=>exact h2 j (by simpa using hj)
  ·intro h
   exact ⟨h 0 (by simp),fun j hj=>h (j+1) (by simpa using hj)⟩
theorem goodL_no {o:Int} {l:List Rng} {d j:Nat} (hj:j<l.length) (h:goodR (l.getD j noRng) (d+opens o (l.getD j noRng).kind)=false):goodL o l d=false:=by
 rw [← Bool.not_eq_true,goodL_at]
 intro k
 rw [k j hj] at h; cases h
inductive LenOk:Rng→Prop
 | mk (k:Int) (v:Ver) (l:List Rng) (h:l.length≤9223372036854775807) (hl:∀ y ∈ l,LenOk y):LenOk (.mk k v l)
theorem LenOk.here {r:Rng} (h:LenOk r):r.subs.length≤9223372036854775807:=by cases h with | mk k v l h _=>exact h
theorem LenOk.sub {r y:Rng} (h:LenOk r) (hy:y ∈ r.subs):LenOk y:=by cases h with | mk k v l _ hl=>exact hl y hy
theorem LenOk.of_wt:∀ (m:Nat) (r:Rng),wt r≤m→m≤9223372036854775807→LenOk r
 | 0,r,h,_=>by rw [wt_eq] at h; omega
 | m+1,r,h,hM=>by
  obtain ⟨k,v,l⟩:=r
  rw [wt_eq] at h
  have h2:wtL l≤m:=by have:wtL (Rng.mk k v l).subs=wtL l:=rfl; omega
  exact .mk k v l (by have:=wtL_len l; omega) fun y hy=>LenOk.of_wt m y (Nat.le_trans (wt_mem hy) h2) (by omega)
theorem opens_two (a b:Int):opens a b≤2:=by unfold opens; split <;> split <;> omega
theorem good_full:∀ (m:Nat) (r:Rng) (x:RV) (B d:Nat) (w:World),wt r≤m→LenOk r→Lies w (LtB B) r x→B≤w.heap.size→d≤70 →
  Calls Tryz.prog 115 #[x.agg,.int .i64 d] w fun e w'=>e=.returned (.bool (goodR r d))∧Below w.heap.size w w'
 | 0,r,x,B,d,w,hm,_,hx,hB,hg=>by rw [wt_eq] at hm; omega
 | m+1,r,x,B,d,w,hm,hM,hx,hB,hdd=>by
  have IH:=Lib.hid (fun r x d w=>good_full m r x B d w)
  have hs:=hx.says
  obtain ⟨f,hln,_,_⟩:=hs.subs
  have HFits:=Lib.hid (fun W (hb:Below w.heap.size w W)=>fits_full x W (hs.pre.kept hb) (hs.build.kept hb) hs.fit)
  have HB:Hid (Below w.heap.size w (w.alloc x)):=(Below.refl _ _).alloc (Nat.le_refl _) _
  have HRA:Hid (RAt (w.alloc x) w.heap.size x):=RAt.new w _ x
  have HL:=Lib.hid (hx.keep (KeepS.of_below (S:=LtB B) HB.out))
  have HG:Hid (goodR r d=(decide (d≤64) && fits x.kind x.v x.n && goodL x.kind r.subs d)):=by
   have e1:=hs.kind
   have e2:=hs.ver
   rw [← e1,← e2,← hln]
   obtain ⟨k,v,l⟩:=r
   exact goodR_eq k v l d
  rw [wt_eq] at hm
  have hxn:x.n≤9223372036854775807:=by rw [← hln]; exact hM.here
  have HLO:=Lib.hid hM
  have HLN:=Lib.hid hln
  clear hs hx hln hM
  unfold RV.agg
  generalize hR:goodR r d=R
  replace HG:Hid (R=(decide (d≤64) && fits x.kind x.v x.n && goodL x.kind r.subs d)):=hR.symm.trans HG.out
  clear hR
  go_enter Tryz.func115,Tryz.ntmps115
  go_upto_region 1 with (fail)
  generalize w.alloc x=W at HB HRA HL ⊢
  obtain ⟨y1,y2,c0,c1,c2,c3,c4,c5,c6⟩:=HRA.out
  by_cases hd:¬ d≤64
  ·have hd64:(64:Int)<(d:Int):=by omega
   obtain rfl:R=false:=by rw [HG.out,decide_eq_false hd,Bool.false_and,Bool.false_and]
   clear hd HG
   go_wp2; go_ret
   exact ⟨rfl,HB.out⟩
  replace hd:=Classical.not_not.1 hd
  have hd64:¬ (64:Int)<(d:Int):=by omega
  replace HG:Hid (R=(fits x.kind x.v x.n && goodL x.kind r.subs d)):=by unfold Hid; rw [HG.out,decide_eq_true hd,Bool.true_and]
  go_wp2_with fail
  refine (HFits.out W HB.out).mono ?_
  rintro e W2 ⟨rfl,hb⟩
  have HB2:=Lib.hid (HB.out.trans (hb.mono HB.out.size))
  have HRA2:=Lib.hid (HRA.out.kept hb HRA.out.1)
  have HL2:=Lib.hid (HL.out.keep (KeepS.of_below (S:=LtB B) hb))
  have hB2:B≤W2.heap.size:=Nat.le_trans hB HB2.out.size
  clear hb y1 y2 c0 c1 c2 c3 c4 c5 c6 HB HRA HL HFits
  obtain ⟨y1,y2,c0,c1,c2,c3,c4,c5,c6⟩:=HRA2.out
  cases hfi:fits x.kind x.v x.n
  ·obtain rfl:R=false:=by rw [HG.out,hfi]; rfl
   clear HG hfi
   go_wp2; go_ret
   exact ⟨rfl,HB2.out⟩
  replace HG:Hid (R=goodL x.kind r.subs d):=by unfold Hid; rw [HG.out,hfi,Bool.true_and]
  clear hfi
  go_wp2
  go_loopw [4,6,17] (fun rv _ iv W'=>rv=.bool false∧∃ k:Nat,k≤x.n∧iv=.int .i64 k∧Hid (Below W2.heap.size W2 W')∧Hid (∀ j,j<k→goodR (r.subs.getD j noRng) (d+opens x.kind (r.subs.getD j noRng).kind)=true)) (fun _ _ iv _=>x.n - (intOf iv).toNat)
  case atStart=>exact ⟨rfl,0,Nat.zero_le _,rfl,Below.refl _ _,fun j hj=>absurd hj (Nat.not_lt_zero j)⟩
  case round =>
   obtain ⟨rfl,k,hk,rfl,HB3,HQ⟩:=hrel
   by_cases hlt:k<x.n
   ·obtain ⟨b,o,c,hLe,hSb,hcl,hcy⟩:=HL2.out.says.subs.one hlt
    have hll:k<r.subs.length:=by rw [HLN.out]; exact hlt
    have hmem:r.subs.getD k noRng ∈ r.subs:=by
     rw [List.getD_eq_getElem?_getD,List.getElem?_eq_getElem (by omega)]; exact List.getElem_mem _
    have hwt:wt (r.subs.getD k noRng)≤m:=by have:=wt_mem hmem; omega
    have ho2:=opens_two x.kind c.kind
    have hoi:IntKind.i64.wrap ((d:Int)+(opens x.kind c.kind:Int))=((d+opens x.kind c.kind:Nat):Int):=by rw [IntKind.wrap_i64] <;> omega
    have hqe:goodR (r.subs.getD k noRng) (d+opens x.kind c.kind)=goodR (r.subs.getD k noRng) (d+opens x.kind (r.subs.getD k noRng).kind):=by rw [hcy.says.kind]
    have hlo:=HLO.out.sub hmem
    obtain ⟨q,hq⟩:∃ q,q=r.subs.getD k noRng:=⟨_,rfl⟩
    rw [← hq] at hcy hwt hlo
    have hqe:goodR q (d+opens x.kind c.kind)=goodR (r.subs.getD k noRng) (d+opens x.kind (r.subs.getD k noRng).kind):=by rw [hq]; exact hqe
    clear hq
    have hcw:=(hcl.keep (KeepS.of_below (S:=LtB B) HB3.out) hSb).cells
    obtain ⟨e0,e1,e2,e3,e4,e5,e6⟩:=hcw
    have HBA:Hid (Below W2.heap.size W2 ((wr.alloc c).drew)):=(HB3.out.alloc HB3.out.size _).drew
    have HXd:Hid (RAt ((wr.alloc c).drew) w.heap.size x):=HRA2.out.kept HBA.out HRA2.out.1
    have HCd:Hid (RAt ((wr.alloc c).drew) wr.heap.size c):=by have h:=RAt.new wr 59 c; exact h
    have HLc:Hid (Lies ((wr.alloc c).drew) (LtB B) q c):=hcy.keep (KeepS.of_below (S:=LtB B) HBA.out)
    have hBA:B≤((wr.alloc c).drew).heap.size:=Nat.le_trans hB2 HBA.out.size
    have HQE:=Lib.hid hqe
    rw [hLe]
    clear hcl hcy hmem hqe
    go_upto_region 6 with (fail)
    clear e0 e1 e2 e3 e4 e5 e6 c0 c1 c2 c3 c4 c5 c6
    have hqe:=HQE.out
    refine wp_region_held_drew (S:=fun w'=>RAt w' w.heap.size x∧RAt w' wr.heap.size c) (by kernel_rfl) ⟨HXd.out,HCd.out⟩ (fun hHeld=>?_)
    refine tk 0 rfl c ?_ fun w' hS'=>by obtain ⟨y1,y2,c0,c1,c2,c3,c4,c5,c6⟩:=hS'.2; go_simp
    refine tk 1 rfl (.int .i64 d) ?_
    refine tk 2 rfl (.pointer (some ⟨w.heap.size,0,none⟩)) ?_
    refine tk 3 rfl x.kind ?_ fun w' hS'=>by obtain ⟨y1,y2,c0,c1,c2,c3,c4,c5,c6⟩:=hS'.1; go_simp
    refine tk 4 rfl (.pointer (some ⟨wr.heap.size,0,none⟩)) ?_
    refine tk 5 rfl c.kind ?_ fun w' hS'=>by obtain ⟨y1,y2,c0,c1,c2,c3,c4,c5,c6⟩:=hS'.2; go_simp
    refine cl 6 rfl fun K hK=>?_
    go_simp
    refine (opens_any x.kind c.kind _).mono ?_
    rintro e wg1 ⟨rfl,rfl⟩
    have hb:=True.intro
    clear hb hHeld
    refine hK.out _ _ ⟨HXd.out,HCd.out⟩ (fun hHeld=>?_)
    clear hK K
    try simp only [Act.put,p1,p2,p3]
    refine tk 7 rfl (.int .i64 ((d+opens x.kind c.kind:Nat):Int)) ?_
    refine cl 8 rfl fun K hK=>?_
    go_simp
    refine (IH.out q c (d+opens x.kind c.kind) _ hwt hlo HLc.out hBA (by omega)).mono ?_
    rintro e wg2 ⟨rfl,hb⟩
    have hbk:=hb
    have HB5:=Lib.hid (HBA.out.trans (hb.mono HBA.out.size))
    clear hb hHeld
    refine hK.out _ _ ⟨HXd.out.kept hbk HXd.out.1,HCd.out.kept hbk HCd.out.1⟩ (fun hHeld=>?_)
    clear hK K
    try simp only [Act.put,p1,p2,p3]
    refine tk 9 rfl (.bool (!goodR q (d+opens x.kind c.kind))) ?_
    refine wpAnyH_done (by kernel_rfl) ?_ _
    cases hqb:goodR q (d+opens x.kind c.kind)
    ·obtain rfl:R=false:=HG.out.trans (goodL_no (by omega) (hqe.symm.trans hqb))
     clear HQ HG
     go_wp2
     go_ret
     exact ⟨rfl,HB2.out.trans (HB5.out.mono HB2.out.size)⟩
    ·go_wp2
     exact ⟨⟨rfl,k+1,by omega,by go_num,HB5.out,fun j hj=>by
      by_cases hjk:j=k
      ·subst hjk; exact hqe.symm.trans hqb
      ·exact HQ.out j (by omega)⟩,by simp [intOf]; omega⟩

   ·obtain rfl:k=x.n:=by omega
    clear c0 c1 c2 c3 c4 c5 c6
    have HA:=Lib.hid (goodL_at.2 fun j hj=>HQ.out j (by rw [← HLN.out]; exact hj))
    obtain rfl:R=true:=HG.out.trans HA.out
    clear HG
    go_wp2
    go_ret
    exact ⟨rfl,HB2.out.trans (HB3.out.mono HB2.out.size)⟩
theorem goodIs_any (r:Rng) (x:RV) (B:Nat) (w:World) (hm:LenOk r) (hx:Lies w (LtB B) r x) (hB:B≤w.heap.size) :
  Calls Tryz.prog 77 #[x.agg] w fun e w'=>e=.returned (.bool (goodR r 0))∧Below w.heap.size w w':=by
 have HB:Hid (Below w.heap.size w (w.alloc x)):=(Below.refl _ _).alloc (Nat.le_refl _) _
 have HRA:Hid (RAt (w.alloc x) w.heap.size x):=RAt.new w _ x
 have HL:=Lib.hid (hx.keep (KeepS.of_below (S:=LtB B) HB.out))
 have HG:=Lib.hid (fun W h1 h2=>good_full (wt r) r x B 0 W (Nat.le_refl _) hm h1 h2 (by omega))
 have hB2:B≤(w.alloc x).heap.size:=Nat.le_trans hB HB.out.size
 clear hx
 unfold RV.agg
 go_enter Tryz.func77,Tryz.ntmps77
 go_upto_region 1 with (fail)
 generalize w.alloc x=W at HB HRA HL hB2 ⊢
 obtain ⟨y1,y2,c0,c1,c2,c3,c4,c5,c6⟩:=HRA.out
 go_wp2_with fail
 refine (HG.out W HL.out hB2).mono ?_
 rintro e W2 ⟨rfl,hb⟩
 have HB2:=Lib.hid (HB.out.trans (hb.mono HB.out.size))
 clear hb
 go_wp2
 go_ret
 exact ⟨rfl,HB2.out⟩
end Go.Proofs.YtneilnibghhgmaaGreatDoor.Range
