/-
  What the theorem of the last text needs of these: SpSweepW, RgMark, RgSev. Conditions: as each theorem states.
-/
import Derived.Test.YtgfbflnhjpbceaaGreatDoorSetB1
import Derived.Test.YtgfbflnhjpbceaaGreatDoorSetB9
import Derived.Test.YtgfbflnhjpbceaaGreatDoorSetB12
import Derived.Test.YtgfbflnhjpbceaaGreatDoorSetB15
import Derived.Test.YtgfbflnhjpbceaaGreatDoorSetB16
import Derived.Test.YtgfbflnhjpbceaaGreatDoorSetB17
import Derived.Deep.CutBlock
import Derived.Deep.RegionHeld3
set_option maxRecDepth 100000
set_option maxHeartbeats 25600000
namespace Go.Proofs.YtgfbflnhjpbceaaGreatDoor.Span
open Go.RowKit Num Ident Semver Prec

theorem sweep_any (w1 w:World) (base:Nat) (v:Value) (re:List REdge) (mb:Nat) (m:Int) (hown:w.ownsRow base 111 7 v re.length (re.flatMap REdge.vals)) (hl:∀ e ∈ re,Lies w1 e.cut) (hb:Below w1.heap.size w1 w) (hbase:w1.heap.size≤base) (hmb:mb<w.heap.size) (hc:w.cell? ⟨mb,0,none⟩=some (.int .i64 m)) (hne:v.ownBlock≠some mb)
  (hr:∀ e ∈ re,right e.cut.cut=true) (hst:∀ e ∈ re,-10≤e.step∧e.step≤10) (hn:re.length≤100000) :
  Calls Tryz.prog 46 #[v,.func (.func 86) #[] #[.pointer (some ⟨mb,0,none⟩)]] w (SweepPost w1 m re):=by
 have HS:=Lib.hid (sort_any w1 w base v re hown hl hb hbase (by omega))
 have HOW:=Lib.hid hown
 have HL:=Lib.hid hl
 have HB:=Lib.hid hb
 have HR:=Lib.hid hr
 have HT:=Lib.hid hst
 have HC:=Lib.hid hc
 have HN:=Lib.hid hne
 obtain ⟨A,c,rfl,_,_,_⟩:=own_cells evals_len hown rfl
 clear hown hl hb hr hst hc hne
 go_enter Tryz.func46,Tryz.ntmps46
 go_wp2
 refine wp_two (SwJ0 w1 re A re.length c mb m) (SwJ1 w1 re A re.length c mb m) (SwM0 re.length) (SwM1 re.length) rfl rfl ?_ ?_ ?_
 ·intro mm
  refine SwJ1.out ?_
  intro W ws rs i T set out lo bc cu was u11 u14 u15 u16 u17 u18 u19 u20 u21 u22 u23 u24 u25 u26 u27 u28 u29 u30 u31 u32 u33 u34 u35 u36 u37 u38 u39 u40 u41 u42 u43 u44 u45 u46 u47 u48 u49 u50 u51 u52 u53 u54 u55 u56 u57 u58 u59 u60 u61 u62 u63 u64 u65 u66 u67 u68 u69 u70 u71 u72 u73 hfix hat hlt hcb htg hcl0 hcr0 heq hmm
  have hmm2:mm=2 * (re.length - i):=by rw [← hmm]; simp [SwM1,intOf]
  clear hmm
  have HF:=Lib.hid hfix
  have HA:=Lib.hid hat
  have HK:=Lib.hid hcb
  have HTG:=Lib.hid htg
  have HCL:=Lib.hid hcl0
  have HCR:=Lib.hid hcr0
  have HE:=Lib.hid heq
  have hsm:=hfix.small
  have hlo:=hat.lo10
  have hhi:=hat.hi10
  have hol:=hat.len
  have hzl:=hat.lob.1
  have hzc:=hcb.1
  clear hfix hat heq hcb hcl0 hcr0 htg
  obtain ⟨g,rfl,hgl,hcl⟩:=HF.out.cells (by omega)
  have hgl2:g<W.heap.size:=Nat.lt_of_lt_of_le hgl HA.out.bel.size
  have hml:mb<W.heap.size:=Nat.lt_of_lt_of_le HF.out.mbl HA.out.bel.size
  have HMC:Hid (W.cell? ⟨mb,0,none⟩=some (.int .i64 m)):=(HA.out.bel.cell (p:=⟨mb,0,none⟩) HF.out.mbl).trans HF.out.mbc
  have HCE:=Lib.hid (fun j hj q u hu=>(HA.out.bel.cell (p:=⟨g,0+j * 7+q,none⟩) hgl).trans (hcl j hj q u hu))
  clear hcl
  obtain ⟨z0,z1,z2,z3,z4,z5,z6⟩:=ed_cells (w:=W) (g:=g) (n:=re.length) (l:=rs) HCE.out hlt
  have HD:=Lib.hid (drop_ed rs i (by rw [HF.out.len]; exact hlt))
  have hst:=HF.out.step _ (getE_mem (l:=rs) (k:=i) (by rw [HF.out.len]; exact hlt))
  obtain ⟨hst1,hst2⟩:=hst
  generalize rs.getD i default=e1 at z0 z1 z2 z3 z4 z5 z6 HD hst1 hst2
  have HE1:Hid (sweepL m (rs.map REdge.edge)=out.map RSp.sp ++ go m cu.cut was T lo.cut (e1.edge :: (rs.drop (i+1)).map REdge.edge)):=by rw [← HD.out]; exact HE.out
  clear HE HD
  by_cases hnx:i+1<re.length
  ·obtain ⟨y0',y1',y2',y3',y4',y5',y6'⟩:=ed_cells (w:=W) (g:=g) (n:=re.length) (l:=rs) HCE.out hnx
   have HX2:Hid (Lies w1 (rs.getD (i+1) default).cut):=HF.out.lies _ (getE_mem (by rw [HF.out.len]; exact hnx))
   have HD2:=Lib.hid (drop_ed rs (i+1) (by rw [HF.out.len]; exact hnx))
   generalize rs.getD (i+1) default=e2 at y0' y1' y2' y3' y4' y5' y6' HX2 HD2
   obtain ⟨_,_,x0,x1,x2,x3,x4,x5⟩:=HK.out
   go_upto_region 10 with (fail)
   have hd1:decide ((i:Int)+1<(re.length:Int))=true:=decide_eq_true (by omega)
   have hd2:(i:Int)+1<(re.length:Int):=by omega
   have hd3:((i:Int)+1).toNat=i+1:=by omega
   have hd4:0≤(i:Int)+1:=by omega
   go_still_tail 11,(by kernel_rfl)
   change wpList _ _ _ _ _ W.drew
   have HA2:=Lib.hid (HA.out.kept (Below.refl W.heap.size W).drew)
   have HK2:=Lib.hid HK.out.drew
   have HTG2:Hid (Tag W.drew bc):=HTG.out
   have HMC2:Hid (W.drew.cell? ⟨mb,0,none⟩=some (.int .i64 m)):=HMC.out
   have hw2:W.drew.heap.size=W.heap.size:=rfl
   clear z0 z1 z2 z3 z4 z5 z6 x0 x1 x2 x3 x4 x5 y0' y1' y2' y3' y4' y5' y6' hd1 hd2 hd3 hd4 HCE
   generalize W.drew=W2 at HA2 HK2 HTG2 HMC2 hw2 ⊢
   have HO2:=Lib.hid (HF.out.old.trans (HA2.out.bel.mono HF.out.old.size))
   rw [← hw2] at hml hzl hzc
   clear HA HK HTG HMC hw2 hgl2
   go_wp2_with fail
   refine (stand_any cu e2.cut _ (HCL.out.kept HO2.out) (HX2.out.kept HO2.out)).mono ?_
   rintro e Wc ⟨rfl,hb3⟩
   have HA1:=Lib.hid ((HA2.out.kept hb3).step hst1 hst2 hlt)
   have HK1:=Lib.hid (HK2.out.kept hb3 hzc)
   have HTG1:=Lib.hid (HTG2.out.kept hb3 hzc)
   have HMC1:Hid (Wc.cell? ⟨mb,0,none⟩=some (.int .i64 m)):=(hb3.cell (p:=⟨mb,0,none⟩) hml).trans HMC2.out
   have HO1:=Lib.hid (HO2.out.trans (hb3.mono HO2.out.size))
   replace hzl:=Nat.lt_of_lt_of_le hzl hb3.size
   replace hzc:=Nat.lt_of_lt_of_le hzc hb3.size
   clear hb3 HA2 HK2 HTG2 HMC2 HO2 hml
   obtain ⟨st,hst⟩:∃ st,stand cu.cut e2.cut.cut=st:=⟨_,rfl⟩
   rw [hst]
   have HST:=Lib.hid hst
   clear hst
   by_cases hz:st=0
   ·have HE2:Hid (sweepL m (rs.map REdge.edge)=out.map RSp.sp ++ go m cu.cut was (T+e1.step) lo.cut ((rs.drop (i+1)).map REdge.edge)):=by
     unfold Hid
     rw [HE1.out,HD2.out,go_like (show stand cu.cut e2.edge.cut=0 from HST.out.trans hz)]; rfl
    subst hz
    clear HE1
    go_wp2
    go_step3
    rw [show ((i:Int)+1)=((i+1:Nat):Int) from rfl]
    exact .inr ⟨rfl,SwJ1.mk ws rs (i+1) (T+e1.step) set out lo bc cu was HF.out HA1.out hnx HK1.out HTG1.out HCL.out HCR.out HE2.out rfl,by rw [hmm2]; simp [SwM1,intOf]; omega⟩
   ·have hn1:(st == 0)=false:=by simp [hz]
    have HEN:Hid (Ends cu.cut ((rs.drop (i+1)).map REdge.edge)):=.inr ⟨_,_,HD2.out,fun h=>hz (HST.out.symm.trans h)⟩
    clear hz HD2
    go_wp2_with fail
    refine (in_any (T+e1.step) m mb _ HMC1.out).mono ?_
    rintro e w' ⟨rfl,rfl⟩
    clear HMC1
    obtain ⟨_,hf,x0,x1,x2,x3,x4,x5⟩:=HA1.out.lob
    obtain ⟨_,_,y0,y1,y2,y3,y4,y5⟩:=HK1.out
    by_cases hmt:m≤T+e1.step
    ·rw [decide_eq_true hmt]
     cases was
     ·have HE2:Hid (sweepL m (rs.map REdge.edge)=out.map RSp.sp ++ nextL m (T+e1.step) cu.cut ((rs.drop (i+1)).map REdge.edge)):=by
       unfold Hid
       rw [HE1.out,go_open_ HEN.out hmt]; rfl
      have HA3:=Lib.hid (HA1.out.setlo cu HCL.out HCR.out)
      clear HE1 hmt
      go_wp2
      go_step3
      rw [show ((i:Int)+1)=((i+1:Nat):Int) from rfl]
      exact .inl ⟨rfl,SwJ0.mk ws rs (i+1) (T+e1.step) set out cu HF.out HA3.out HE2.out rfl,by rw [hmm2]; simp [SwM0,intOf]; omega⟩
     ·have HE2:Hid (sweepL m (rs.map REdge.edge)=out.map RSp.sp ++ nextL m (T+e1.step) lo.cut ((rs.drop (i+1)).map REdge.edge)):=by
       unfold Hid
       rw [HE1.out,go_same HEN.out (decide_eq_true hmt)]; rfl
      clear HE1 hmt
      go_wp2
      go_step3
      rw [show ((i:Int)+1)=((i+1:Nat):Int) from rfl]
      exact .inl ⟨rfl,SwJ0.mk ws rs (i+1) (T+e1.step) set out lo HF.out HA1.out HE2.out rfl,by rw [hmm2]; simp [SwM0,intOf]; omega⟩
    ·rw [decide_eq_false hmt]
     cases was
     ·have HE2:Hid (sweepL m (rs.map REdge.edge)=out.map RSp.sp ++ nextL m (T+e1.step) lo.cut ((rs.drop (i+1)).map REdge.edge)):=by
       unfold Hid
       rw [HE1.out,go_same HEN.out (decide_eq_false hmt)]; rfl
      clear HE1 hmt
      go_wp2
      go_step3
      rw [show ((i:Int)+1)=((i+1:Nat):Int) from rfl]
      exact .inl ⟨rfl,SwJ0.mk ws rs (i+1) (T+e1.step) set out lo HF.out HA1.out HE2.out rfl,by rw [hmm2]; simp [SwM0,intOf]; omega⟩
     ·have HE2:Hid (sweepL m (rs.map REdge.edge)=out.map RSp.sp ++ (⟨lo.cut,cu.cut⟩ :: nextL m (T+e1.step) lo.cut ((rs.drop (i+1)).map REdge.edge))):=by
       unfold Hid
       rw [HE1.out,go_shut HEN.out hmt]; rfl
      clear HE1 hmt
      go_upto_region 15 with (fail)
      have B0:=Lib.hid ((Below.refl Wc.heap.size Wc).drew)
      refine wp_region_held_drew (S:=fun w'=>Below (ws.heap.size+1) Wc w'∧At6B w' bc cu.kind cu.v.a cu.v.b cu.v.c (.slice cu.A cu.v.pre.length cu.c) (.slice cu.B cu.v.build.length cu.d)) (by kernel_rfl) ⟨B0.out.mono hzl,HK1.out.drew⟩ (fun hHeld=>?_)
      refine tk 0 rfl set ?_
      refine tk 1 rfl lo ?_ fun w' hS'=>by have q0:=(hS'.1.cell (p:=⟨ws.heap.size,0,none⟩) (Nat.lt_succ_self _)).trans x0; have q1:=(hS'.1.cell (p:=⟨ws.heap.size,1,none⟩) (Nat.lt_succ_self _)).trans x1; have q2:=(hS'.1.cell (p:=⟨ws.heap.size,2,none⟩) (Nat.lt_succ_self _)).trans x2; have q3:=(hS'.1.cell (p:=⟨ws.heap.size,3,none⟩) (Nat.lt_succ_self _)).trans x3; have q4:=(hS'.1.cell (p:=⟨ws.heap.size,4,none⟩) (Nat.lt_succ_self _)).trans x4; have q5:=(hS'.1.cell (p:=⟨ws.heap.size,5,none⟩) (Nat.lt_succ_self _)).trans x5; go_simp
      refine tk 3 rfl cu ?_ fun w' hS'=>by obtain ⟨_,_,_,q0,q1,q2,q3,q4,q5⟩:=hS'; go_simp
      refine cl 2 rfl fun K hK=>?_
      go_simp
      refine (copied_any lo _ ((HA1.out.lies.kept HO1.out).kept B0.out) (Nat.le_trans HA1.out.few (by omega))).mono ?_
      rintro e w5 ⟨lo',rfl,hlo5,ho5,hb5⟩
      have B5:=Lib.hid (B0.out.trans (hb5.mono B0.out.size))
      have O5:=Lib.hid (ho5.mono (Nat.le_trans hzl B0.out.size))
      have E5:=Lib.hid hlo5
      clear ho5 hb5 hlo5 hHeld
      refine hK.out _ _ ⟨B5.out.mono hzl,HK1.out.kept B5.out hzc⟩ (fun hHeld=>?_)
      clear hK K
      try simp only [Act.put,p1,p2,p3]
      refine cl 4 rfl fun K hK=>?_
      go_simp
      refine (copied_any cu _ ((HCL.out.kept HO1.out).kept B5.out) (Nat.le_trans (right_few HCR.out).1 (by omega))).mono ?_
      rintro e w6 ⟨cu',rfl,hcu6,ho6,hb6⟩
      have B6:=Lib.hid (B5.out.trans (hb6.mono B5.out.size))
      have O6:=Lib.hid (ho6.mono (Nat.le_trans hzl B5.out.size))
      have P6:=Lib.hid (O5.out.kept hb6)
      have E6:=Lib.hid hcu6
      clear ho6 hb6 hcu6 hHeld
      refine hK.out _ _ ⟨B6.out.mono hzl,HK1.out.kept B6.out hzc⟩ (fun hHeld=>?_)
      clear hK K
      try simp only [Act.put,p1,p2,p3]
      refine tk 5 rfl (lo',cu') ?_
      have A7:=Lib.hid ((Below.refl w6.heap.size w6).alloc (Nat.le_refl _) (lo',cu'))
      have B7:=Lib.hid (B6.out.trans (A7.out.mono B6.out.size))
      refine cl 6 rfl fun K hK=>?_
      go_simp
      refine hK.out _ _ ⟨B7.out.mono hzl,HK1.out.kept B7.out hzc⟩ (fun hHeld=>?_)
      clear hK K
      try simp only [Act.put,p1,p2,p3]
      obtain ⟨v8,w8,hrun,ho8,hg8⟩:=run_append_sp (w6.alloc (lo',cu')) 31 (ws.heap.size+1) set out.length out (own_below HA1.out.own B7.out) ⟨w6.heap.size,0,none⟩ 1 1 [⟨lo',cu'⟩] rfl (news_new w6 _ _) (by omega) (Nat.le_trans hzl B7.out.size)
      have HA8:=Lib.hid (HA1.out.more (s:=⟨lo',cu'⟩) B7.out (P6.out.kept A7.out) (O6.out.kept A7.out) hg8 ho8 (by omega))
      have K8:Hid (At6B w8 bc cu.kind cu.v.a cu.v.b cu.v.c (.slice cu.A cu.v.pre.length cu.c) (.slice cu.B cu.v.build.length cu.d)):=(HK1.out.kept B7.out hzc).grown hg8 ((HTG1.out.kept B7.out hzc).apart (own_below HA1.out.own B7.out))
      have B8:Hid (Below (ws.heap.size+1) Wc w8):=(B7.out.mono hzl).grown hg8 (Nat.le_trans hzl B7.out.size) (fun k hk=>(HA1.out.own.lt k hk).1)
      have HE3:Hid (sweepL m (rs.map REdge.edge)=(out ++ [(⟨lo',cu'⟩:RSp)]).map RSp.sp ++ nextL m (T+e1.step) lo.cut ((rs.drop (i+1)).map REdge.edge)):=by
       unfold Hid
       have e5:lo'.cut=lo.cut:=by rw [E5.out,HA1.out.bare]; rfl
       have e6:cu'.cut=cu.cut:=by rw [E6.out]; show (⟨cu.kind,bare cu.cut.v⟩:Cut)=_; rw [right_bare HCR.out]; rfl
       rw [HE2.out,List.map_append,List.append_assoc]; show _=_ ++ ([Sp.mk lo'.cut cu'.cut] ++ _); rw [e5,e6]; rfl
      clear ho8 hg8 hHeld HE2
      refine cl 7 rfl fun K hK=>?_
      refine region_append_sp (by rfl) _ _ rfl rfl rfl hrun ?_
      refine hK.out _ _ ⟨B8.out,K8.out⟩ (fun hHeld=>?_)
      clear hK K hrun
      try simp only [Act.put,p1,p2,p3]
      refine tk 8 rfl v8 ?_
      refine wpAnyH_done (by kernel_rfl) ?_ _
      clear hHeld
      go_wp2
      go_step3
      rw [show ((i:Int)+1)=((i+1:Nat):Int) from rfl]
      exact .inl ⟨rfl,SwJ0.mk ws rs (i+1) (T+e1.step) v8 (out ++ [⟨lo',cu'⟩]) lo HF.out HA8.out HE3.out rfl,by rw [hmm2]; simp [SwM0,intOf]; omega⟩
  ·have HEN:Hid (Ends cu.cut ((rs.drop (i+1)).map REdge.edge)):=.inl (by rw [List.drop_eq_nil_of_le (by rw [HF.out.len]; omega)]; rfl)
   obtain ⟨_,_,x0,x1,x2,x3,x4,x5⟩:=HK.out
   go_upto_region 10 with (fail)
   have hd1:decide ((i:Int)+1<(re.length:Int))=false:=decide_eq_false (by omega)
   have hd2:(re.length:Int)≤(i:Int)+1:=by omega
   refine wp_region_held_drew (S:=fun w'=>Below W.heap.size W w') (by kernel_rfl) (Below.refl _ _).drew (fun hHeld=>?_)
   refine tk 0 rfl (.int .i64 ((i:Int)+1)) ?_
   refine tk 1 rfl (.slice (some ⟨g,0,none⟩) re.length c) ?_
   refine tk 2 rfl (.int .i64 re.length) ?_
   refine tk 3 rfl (.bool false) ?_
   refine tk 4 rfl (.bool false) ?_
   refine sk 5 rfl ?_
   refine sk 6 rfl ?_
   refine sk 7 rfl ?_
   refine sk 8 rfl ?_
   refine sk 9 rfl ?_
   refine sk 10 rfl ?_
   refine sk 11 rfl ?_
   refine sk 12 rfl ?_
   refine tk 13 rfl (.bool false) ?_
   refine wpAnyH_done (by kernel_rfl) ?_ _
   clear hHeld
   change Exit.then _ _ _ _ W.drew
   have HA1:=Lib.hid ((HA.out.kept (Below.refl W.heap.size W).drew).step hst1 hst2 hlt)
   have HK1:=Lib.hid HK.out.drew
   have HTG1:Hid (Tag W.drew bc):=HTG.out
   have HMC1:Hid (W.drew.cell? ⟨mb,0,none⟩=some (.int .i64 m)):=HMC.out
   have hw2:W.drew.heap.size=W.heap.size:=rfl
   clear z0 z1 z2 z3 z4 z5 z6 x0 x1 x2 x3 x4 x5 hd1 hd2 HCE
   generalize W.drew=Wc at HA1 HK1 HTG1 HMC1 hw2 ⊢
   have HO1:=Lib.hid (HF.out.old.trans (HA1.out.bel.mono HF.out.old.size))
   rw [← hw2] at hml hzl hzc
   clear HA HK HTG HMC hw2 hgl2
   go_wp2_with fail
   refine (in_any (T+e1.step) m mb _ HMC1.out).mono ?_
   rintro e w' ⟨rfl,rfl⟩
   clear HMC1
   obtain ⟨_,hf,x0,x1,x2,x3,x4,x5⟩:=HA1.out.lob
   obtain ⟨_,_,y0,y1,y2,y3,y4,y5⟩:=HK1.out
   by_cases hmt:m≤T+e1.step
   ·rw [decide_eq_true hmt]
    cases was
    ·have HE2:Hid (sweepL m (rs.map REdge.edge)=out.map RSp.sp ++ nextL m (T+e1.step) cu.cut ((rs.drop (i+1)).map REdge.edge)):=by
      unfold Hid
      rw [HE1.out,go_open_ HEN.out hmt]; rfl
     have HA3:=Lib.hid (HA1.out.setlo cu HCL.out HCR.out)
     clear HE1 hmt
     go_wp2
     go_step3
     rw [show ((i:Int)+1)=((i+1:Nat):Int) from rfl]
     exact .inl ⟨rfl,SwJ0.mk ws rs (i+1) (T+e1.step) set out cu HF.out HA3.out HE2.out rfl,by rw [hmm2]; simp [SwM0,intOf]; omega⟩
    ·have HE2:Hid (sweepL m (rs.map REdge.edge)=out.map RSp.sp ++ nextL m (T+e1.step) lo.cut ((rs.drop (i+1)).map REdge.edge)):=by
      unfold Hid
      rw [HE1.out,go_same HEN.out (decide_eq_true hmt)]; rfl
     clear HE1 hmt
     go_wp2
     go_step3
     rw [show ((i:Int)+1)=((i+1:Nat):Int) from rfl]
     exact .inl ⟨rfl,SwJ0.mk ws rs (i+1) (T+e1.step) set out lo HF.out HA1.out HE2.out rfl,by rw [hmm2]; simp [SwM0,intOf]; omega⟩
   ·rw [decide_eq_false hmt]
    cases was
    ·have HE2:Hid (sweepL m (rs.map REdge.edge)=out.map RSp.sp ++ nextL m (T+e1.step) lo.cut ((rs.drop (i+1)).map REdge.edge)):=by
      unfold Hid
      rw [HE1.out,go_same HEN.out (decide_eq_false hmt)]; rfl
     clear HE1 hmt
     go_wp2
     go_step3
     rw [show ((i:Int)+1)=((i+1:Nat):Int) from rfl]
     exact .inl ⟨rfl,SwJ0.mk ws rs (i+1) (T+e1.step) set out lo HF.out HA1.out HE2.out rfl,by rw [hmm2]; simp [SwM0,intOf]; omega⟩
    ·have HE2:Hid (sweepL m (rs.map REdge.edge)=out.map RSp.sp ++ (⟨lo.cut,cu.cut⟩ :: nextL m (T+e1.step) lo.cut ((rs.drop (i+1)).map REdge.edge))):=by
      unfold Hid
      rw [HE1.out,go_shut HEN.out hmt]; rfl
     clear HE1 hmt
     go_upto_region 15 with (fail)
     have B0:=Lib.hid ((Below.refl Wc.heap.size Wc).drew)
     refine wp_region_held_drew (S:=fun w'=>Below (ws.heap.size+1) Wc w'∧At6B w' bc cu.kind cu.v.a cu.v.b cu.v.c (.slice cu.A cu.v.pre.length cu.c) (.slice cu.B cu.v.build.length cu.d)) (by kernel_rfl) ⟨B0.out.mono hzl,HK1.out.drew⟩ (fun hHeld=>?_)
     refine tk 0 rfl set ?_
     refine tk 1 rfl lo ?_ fun w' hS'=>by have q0:=(hS'.1.cell (p:=⟨ws.heap.size,0,none⟩) (Nat.lt_succ_self _)).trans x0; have q1:=(hS'.1.cell (p:=⟨ws.heap.size,1,none⟩) (Nat.lt_succ_self _)).trans x1; have q2:=(hS'.1.cell (p:=⟨ws.heap.size,2,none⟩) (Nat.lt_succ_self _)).trans x2; have q3:=(hS'.1.cell (p:=⟨ws.heap.size,3,none⟩) (Nat.lt_succ_self _)).trans x3; have q4:=(hS'.1.cell (p:=⟨ws.heap.size,4,none⟩) (Nat.lt_succ_self _)).trans x4; have q5:=(hS'.1.cell (p:=⟨ws.heap.size,5,none⟩) (Nat.lt_succ_self _)).trans x5; go_simp
     refine tk 3 rfl cu ?_ fun w' hS'=>by obtain ⟨_,_,_,q0,q1,q2,q3,q4,q5⟩:=hS'; go_simp
     refine cl 2 rfl fun K hK=>?_
     go_simp
     refine (copied_any lo _ ((HA1.out.lies.kept HO1.out).kept B0.out) (Nat.le_trans HA1.out.few (by omega))).mono ?_
     rintro e w5 ⟨lo',rfl,hlo5,ho5,hb5⟩
     have B5:=Lib.hid (B0.out.trans (hb5.mono B0.out.size))
     have O5:=Lib.hid (ho5.mono (Nat.le_trans hzl B0.out.size))
     have E5:=Lib.hid hlo5
     clear ho5 hb5 hlo5 hHeld
     refine hK.out _ _ ⟨B5.out.mono hzl,HK1.out.kept B5.out hzc⟩ (fun hHeld=>?_)
     clear hK K
     try simp only [Act.put,p1,p2,p3]
     refine cl 4 rfl fun K hK=>?_
     go_simp
     refine (copied_any cu _ ((HCL.out.kept HO1.out).kept B5.out) (Nat.le_trans (right_few HCR.out).1 (by omega))).mono ?_
     rintro e w6 ⟨cu',rfl,hcu6,ho6,hb6⟩
     have B6:=Lib.hid (B5.out.trans (hb6.mono B5.out.size))
     have O6:=Lib.hid (ho6.mono (Nat.le_trans hzl B5.out.size))
     have P6:=Lib.hid (O5.out.kept hb6)
     have E6:=Lib.hid hcu6
     clear ho6 hb6 hcu6 hHeld
     refine hK.out _ _ ⟨B6.out.mono hzl,HK1.out.kept B6.out hzc⟩ (fun hHeld=>?_)
     clear hK K
     try simp only [Act.put,p1,p2,p3]
     refine tk 5 rfl (lo',cu') ?_
     have A7:=Lib.hid ((Below.refl w6.heap.size w6).alloc (Nat.le_refl _) (lo',cu'))
     have B7:=Lib.hid (B6.out.trans (A7.out.mono B6.out.size))
     refine cl 6 rfl fun K hK=>?_
     go_simp
     refine hK.out _ _ ⟨B7.out.mono hzl,HK1.out.kept B7.out hzc⟩ (fun hHeld=>?_)
     clear hK K
     try simp only [Act.put,p1,p2,p3]
     obtain ⟨v8,w8,hrun,ho8,hg8⟩:=run_append_sp (w6.alloc (lo',cu')) 31 (ws.heap.size+1) set out.length out (own_below HA1.out.own B7.out) ⟨w6.heap.size,0,none⟩ 1 1 [⟨lo',cu'⟩] rfl (news_new w6 _ _) (by omega) (Nat.le_trans hzl B7.out.size)
     have HA8:=Lib.hid (HA1.out.more (s:=⟨lo',cu'⟩) B7.out (P6.out.kept A7.out) (O6.out.kept A7.out) hg8 ho8 (by omega))
     have K8:Hid (At6B w8 bc cu.kind cu.v.a cu.v.b cu.v.c (.slice cu.A cu.v.pre.length cu.c) (.slice cu.B cu.v.build.length cu.d)):=(HK1.out.kept B7.out hzc).grown hg8 ((HTG1.out.kept B7.out hzc).apart (own_below HA1.out.own B7.out))
     have B8:Hid (Below (ws.heap.size+1) Wc w8):=(B7.out.mono hzl).grown hg8 (Nat.le_trans hzl B7.out.size) (fun k hk=>(HA1.out.own.lt k hk).1)
     have HE3:Hid (sweepL m (rs.map REdge.edge)=(out ++ [(⟨lo',cu'⟩:RSp)]).map RSp.sp ++ nextL m (T+e1.step) lo.cut ((rs.drop (i+1)).map REdge.edge)):=by
      unfold Hid
      have e5:lo'.cut=lo.cut:=by rw [E5.out,HA1.out.bare]; rfl
      have e6:cu'.cut=cu.cut:=by rw [E6.out]; show (⟨cu.kind,bare cu.cut.v⟩:Cut)=_; rw [right_bare HCR.out]; rfl
      rw [HE2.out,List.map_append,List.append_assoc]; show _=_ ++ ([Sp.mk lo'.cut cu'.cut] ++ _); rw [e5,e6]; rfl
     clear ho8 hg8 hHeld HE2
     refine cl 7 rfl fun K hK=>?_
     refine region_append_sp (by rfl) _ _ rfl rfl rfl hrun ?_
     refine hK.out _ _ ⟨B8.out,K8.out⟩ (fun hHeld=>?_)
     clear hK K hrun
     try simp only [Act.put,p1,p2,p3]
     refine tk 8 rfl v8 ?_
     refine wpAnyH_done (by kernel_rfl) ?_ _
     clear hHeld
     go_wp2
     go_step3
     rw [show ((i:Int)+1)=((i+1:Nat):Int) from rfl]
     exact .inl ⟨rfl,SwJ0.mk ws rs (i+1) (T+e1.step) v8 (out ++ [⟨lo',cu'⟩]) lo HF.out HA8.out HE3.out rfl,by rw [hmm2]; simp [SwM0,intOf]; omega⟩
 ·intro HP
  intro mm
  refine SwJ0.out ?_
  intro W ws rs i T set out lo u9 u10 u11 u14 u15 u16 u17 u18 u19 u20 u21 u22 u23 u24 u25 u26 u27 u28 u29 u30 u31 u32 u33 u34 u35 u36 u37 u38 u39 u40 u41 u42 u43 u44 u45 u46 u47 u48 u49 u50 u51 u52 u53 u54 u55 u56 u57 u58 u59 u60 u61 u62 u63 u64 u65 u66 u67 u68 u69 u70 u71 u72 u73 hfix hat heq hmm
  have hmm2:mm=2 * (re.length - i)+1:=by rw [← hmm]; simp [SwM0,intOf]
  clear hmm
  have HF:=Lib.hid hfix
  have HA:=Lib.hid hat
  have HE:=Lib.hid heq
  have hi:=hat.ile
  have hsm:=hfix.small
  clear hfix hat heq
  by_cases hlt:i<re.length
  ·have e0:((i:Int) == (re.length:Int))=false:=by rw [beq_eq_false_iff_ne]; omega
   go_upto_region 7 with (fail)
   obtain ⟨g,rfl,hgl,hcl⟩:=HF.out.cells (by omega)
   obtain ⟨z0,z1,z2,z3,z4,z5,z6⟩:=ed_cells (w:=W) (g:=g) (n:=re.length) (l:=rs) (fun j hj q u hu=>(HA.out.bel.cell (p:=⟨g,0+j * 7+q,none⟩) hgl).trans (hcl j hj q u hu)) hlt
   have hmc:W.cell? ⟨mb,0,none⟩=some (.int .i64 m):=(HA.out.bel.cell (p:=⟨mb,0,none⟩) HF.out.mbl).trans HF.out.mbc
   clear hcl
   have HX:Hid (Lies w1 (rs.getD i default).cut∧right (rs.getD i default).cut.cut=true):=⟨HF.out.lies _ (getE_mem (by rw [HF.out.len]; exact hlt)),HF.out.right _ (getE_mem (by rw [HF.out.len]; exact hlt))⟩
   have HE1:Hid (sweepL m (rs.map REdge.edge)=out.map RSp.sp ++ go m (rs.getD i default).cut.cut (decide (m≤T)) T lo.cut ((rs.drop i).map REdge.edge)):=by
    unfold Hid; rw [HE.out,drop_ed rs i (by rw [HF.out.len]; exact hlt)]; rfl
   generalize rs.getD i default=e1 at z0 z1 z2 z3 z4 z5 z6 HX HE1
   have hml:mb<W.heap.size:=Nat.lt_of_lt_of_le HF.out.mbl HA.out.bel.size
   have hgl2:g<W.heap.size:=Nat.lt_of_lt_of_le hgl HA.out.bel.size
   refine wp_region_held_drew (S:=fun w'=>Below W.heap.size W w') (by kernel_rfl) (Below.refl _ _).drew (fun hHeld=>?_)
   refine tk 0 rfl (.slice (some ⟨g,0,none⟩) re.length c) ?_
   refine tk 1 rfl (.int .i64 i) ?_
   refine tk 2 rfl (.pointer (some ⟨g,i * 7,none⟩)) ?_
   refine tk 3 rfl (.pointer (some ⟨g,i * 7,none⟩)) ?_
   refine tk 4 rfl e1.cut ?_ fun w' hS'=>by have q0:=(hS'.cell (p:=⟨g,i * 7,none⟩) hgl2).trans z0; have q1:=(hS'.cell (p:=⟨g,i * 7+1,none⟩) hgl2).trans z1; have q2:=(hS'.cell (p:=⟨g,i * 7+2,none⟩) hgl2).trans z2; have q3:=(hS'.cell (p:=⟨g,i * 7+3,none⟩) hgl2).trans z3; have q4:=(hS'.cell (p:=⟨g,i * 7+4,none⟩) hgl2).trans z4; have q5:=(hS'.cell (p:=⟨g,i * 7+5,none⟩) hgl2).trans z5; go_simp
   refine tk 5 rfl (.func (.func 86) #[] #[.pointer (some ⟨mb,0,none⟩)]) ?_
   refine tk 6 rfl (.int .i64 T) ?_
   refine wpAnyH_ready (rs:=[7,8]) (by kernel_rfl) (by simp) ?_
   refine AllReadyH.cons (nth_ops (i:=7) rfl) (fun K hK=>?_) (AllReadyH.cons (nth_ops (i:=8) rfl) (fun K hK=>?_) AllReadyH.nil)
   ·go_simp
    refine (in_any T m mb _ ((hHeld.cell (p:=⟨mb,0,none⟩) hml).trans hmc)).mono ?_
    rintro e w2 ⟨rfl,rfl⟩
    refine hK.out _ _ hHeld (fun hHeld=>?_)
    clear hK K
    try simp only [Act.put,p1,p2,p3]
    refine cl 8 rfl fun K hK=>?_
    go_simp
    refine hK.out _ _ (((Below.refl W.heap.size W).alloc (Nat.le_refl _) _).drew) (fun hHeld=>?_)
    clear hK K
    try simp only [Act.put,p1,p2,p3]
    refine cl 9 rfl fun K hK=>?_
    go_simp
    refine hK.out _ _ (((Below.refl W.heap.size W).alloc (Nat.le_refl _) _).drew) (fun hHeld=>?_)
    clear hK K
    try simp only [Act.put,p1,p2,p3]
    refine tk 10 rfl (.bool (decide (m≤T))) ?_
    refine wpAnyH_done (by kernel_rfl) ?_ _
    clear hHeld
    go_wp2
    go_step3
    rename_i hK
    exact hK _ _ (HP.out _ _ _ (SwJ1.mk ws rs i T set out lo W.heap.size e1.cut (decide (m≤T)) HF.out (HA.out.kept (((Below.refl W.heap.size W).alloc (Nat.le_refl _) _).drew)) hlt (At6B.drew (At6B.new W _ _ _ _ _ _ _)) (Tag.new W _) HX.out.1 HX.out.2 HE1.out rfl) (by rw [hmm2]; simp [SwM1,intOf]))
   ·go_simp
    refine hK.out _ _ (((Below.refl W.heap.size W).alloc (Nat.le_refl _) _).drew) (fun hHeld=>?_)
    clear hK K
    try simp only [Act.put,p1,p2,p3]
    refine cl 7 rfl fun K hK=>?_
    go_simp
    refine (in_any T m mb _ ((hHeld.cell (p:=⟨mb,0,none⟩) hml).trans hmc)).mono ?_
    rintro e w2 ⟨rfl,rfl⟩
    refine hK.out _ _ hHeld (fun hHeld=>?_)
    clear hK K
    try simp only [Act.put,p1,p2,p3]
    refine cl 9 rfl fun K hK=>?_
    go_simp
    refine hK.out _ _ (((Below.refl W.heap.size W).alloc (Nat.le_refl _) _).drew) (fun hHeld=>?_)
    clear hK K
    try simp only [Act.put,p1,p2,p3]
    refine tk 10 rfl (.bool (decide (m≤T))) ?_
    refine wpAnyH_done (by kernel_rfl) ?_ _
    clear hHeld
    go_wp2
    go_step3
    rename_i hK
    exact hK _ _ (HP.out _ _ _ (SwJ1.mk ws rs i T set out lo W.heap.size e1.cut (decide (m≤T)) HF.out (HA.out.kept (((Below.refl W.heap.size W).alloc (Nat.le_refl _) _).drew)) hlt (At6B.drew (At6B.new W _ _ _ _ _ _ _)) (Tag.new W _) HX.out.1 HX.out.2 HE1.out rfl) (by rw [hmm2]; simp [SwM1,intOf]))
  ·have e0:((i:Int) == (re.length:Int))=true:=by rw [beq_iff_eq]; omega
   have HE2:Hid (out.map RSp.sp=sweepL m (rs.map REdge.edge)):=by
    unfold Hid
    rw [HE.out,List.drop_eq_nil_of_le (by rw [HF.out.len]; omega)]; simp [nextL]
   go_wp2
   simp only [jumps]
   exact bodyPost_ret (v:=set) (by simp [results,Tryz.results46,go_sem]) rfl ⟨ws.heap.size+1,set,out,rs,rfl,HF.out.perm,HF.out.sorted,HE2.out,Nat.le_succ_of_le HF.out.old.size,HA.out.own,HA.out.cuts,Nat.le_trans HA.out.len hi,HF.out.old.trans (HA.out.bel.mono HF.out.old.size)⟩
 ·intro HP
  go_wp2_with fail
  refine HS.out.mono ?_
  rintro e ws ⟨rfl,rs,hp,hpw,ho,hg⟩
  have HFX:Hid (SwFix w1 re A re.length mb m ws rs):=by
   have hln:=hp.length_eq
   obtain ⟨A',c',e',_,_,hcell⟩:=own_cells evals_len ho rfl
   injection e' with e1 e2 e3
   subst e1
   refine ⟨hp,hpw,hln,hn,fun e he=>HL.out e (hp.mem_iff.1 he),fun e he=>HR.out e (hp.mem_iff.1 he),fun e he=>HT.out e (hp.mem_iff.1 he),fun h0=>?_,Nat.lt_of_lt_of_le hmb hg.size,hg.cell HC.out (Ne.symm HN.out),HB.out.grown hg HB.out.size (fun k hk=>Nat.le_trans hbase (HOW.out.lt k hk).1)⟩
   obtain ⟨g,hg1,_,hg2,_,hg3⟩:=hcell (by rw [hln]; exact h0)
   exact ⟨g,hg1,hg2,by rw [← hln]; exact hg3⟩
  have HAT:Hid (SwAt w1 ws re.length 0 0 (.slice none 0 0) [] rlow (ws.alloc true)) :=
   {bel:=(Below.refl _ _).alloc (Nat.le_refl _) _,lob:=At6B.new ws _ _ _ _ _ _ _,own:=World.ownsRow_nil _ _ _ _,cuts:=(fun s hs=>by cases hs),lies:=Lies.low w1,bare:=rfl,few:=Nat.zero_le _,len:=Nat.le_refl _,lo10:=by omega,hi10:=by omega,ile:=Nat.zero_le _ }
  have HEQ:Hid (sweepL m (rs.map REdge.edge)=([]:List RSp).map RSp.sp ++ nextL m 0 rlow.cut ((rs.drop 0).map REdge.edge)):=sweepL_next m _
  clear HS hp hpw ho hg
  go_wp2
  go_step3
  rename_i hK
  exact hK _ _ (HP.out _ _ (SwJ0.mk ws rs 0 0 (.slice none 0 0) [] rlow HFX.out HAT.out HEQ.out rfl))
end Go.Proofs.YtgfbflnhjpbceaaGreatDoor.Span
namespace Go.Proofs.YtgfbflnhjpbceaaGreatDoor.Range
open Go.RowKit Num Ident Semver
theorem good_short {v:Ver} (h:goodV v=true):shortB v.pre=true∧shortB v.build=true:=by
 unfold goodV at h
 rw [Bool.and_eq_true,Bool.and_eq_true] at h
 obtain ⟨_,h2,h3⟩:=h
 have b1:=goodFrom_bound _ _ h2
 have b2:=goodFrom_bound _ _ h3
 refine ⟨(shortB_iff _).2 ⟨?_,fun x hx=>Nat.le_trans (b1.2 x hx) (by omega)⟩,(shortB_iff _).2 ⟨?_,fun x hx=>Nat.le_trans (b2.2 x hx) (by omega)⟩⟩
 ·by_cases e:v.pre=[]
  ·rw [e]; simp
  ·have:=b1.1 e; omega
 ·by_cases e:v.build=[]
  ·rw [e]; simp
  ·have:=b2.1 e; omega
theorem mark_of {k:Int} (v:Ver) (h1:1≤k) (h2:k≤8):markR k v=ops.getD (k - 1).toNat [] ++ vtext v:=by
 unfold markR ofVersion
 rw [if_neg (by omega),if_neg (by omega),if_neg (by omega),if_pos (by simp; omega)]
theorem mark_any (x:RV) (w:World) (hr1:SRow w x.A x.v.pre.length x.v.pre) (hr2:SRow w x.B x.v.build.length x.v.build) (hc1:x.v.pre.length≤x.c) (hc2:x.v.build.length≤x.d)
  (hk:x.kind=0∨(x.kind=9∨x.kind=10)∨x.kind=11∨(1≤x.kind∧x.kind≤8∧goodV x.v=true)) (hlen:(markR x.kind x.v).length≤100000000) (ht:OpsTab w) (htab:Tab w) :
  Calls Tryz.prog 51 #[x.agg] w fun e w'=>e=.returned (.string (mk (markR x.kind x.v)))∧Below w.heap.size w w':=by
 have HB:Hid (Below w.heap.size w (w.alloc x)):=(Below.refl _ _).alloc (Nat.le_refl _) _
 have HRA:Hid (RAt (w.alloc x) w.heap.size x):=RAt.new w _ x
 have HT:Hid (OpsTab (w.alloc x)):=ht.keep (Keep.of_below HB.out)
 have HTX:Hid (goodV x.v=true→∀ W,Below w.heap.size w W→Calls Tryz.prog 91 #[.agg #[x.v.a,x.v.b,x.v.c,.slice x.A x.v.pre.length x.c,.slice x.B x.v.build.length x.d]] W fun e w'=>e=.returned (.string (mk (vtext x.v)))∧Below W.heap.size W w'):=fun hg W hb=>by
  have f:=fit_good hg
  have s:=good_short hg
  exact vtext_any x.v x.A x.c x.B x.d W f.a f.b f.c (hr1.kept hb) (hr2.kept hb) hc1 hc2 s.1 s.2 (htab.kept hb)
 clear hr1 hr2 hc1 hc2 ht htab
 unfold RV.agg
 go_enter Tryz.func51,Tryz.ntmps51
 go_upto_region 1 with (fail)
 generalize w.alloc x=W at HB HRA HT ⊢
 obtain ⟨y1,y2,c0,c1,c2,c3,c4,c5,c6⟩:=HRA.out
 rcases hk with hk | (hk | hk) | hk | ⟨h1,h2,h3⟩
 ·rw [hk] at c0
  have HM:Hid (markR x.kind x.v=[42]):=by rw [hk]; rfl
  clear hk
  go_wp2; go_ret
  exact ⟨by rw [HM.out]; rfl,HB.out⟩
 ·rw [hk] at c0
  have HM:Hid (markR x.kind x.v=[]):=by rw [hk]; rfl
  clear hk
  go_wp2; go_ret
  exact ⟨by rw [HM.out]; rfl,HB.out⟩
 ·rw [hk] at c0
  have HM:Hid (markR x.kind x.v=[]):=by rw [hk]; rfl
  clear hk
  go_wp2; go_ret
  exact ⟨by rw [HM.out]; rfl,HB.out⟩
 ·rw [hk] at c0
  have HM:Hid (markR x.kind x.v=[33]):=by rw [hk]; rfl
  clear hk
  go_wp2; go_ret
  exact ⟨by rw [HM.out]; rfl,HB.out⟩
 ·have HM:=Lib.hid (mark_of x.v h1 h2)
  obtain ⟨k,hk⟩:∃ k:Nat,(x.kind - 1).toNat=k:=⟨_,rfl⟩
  have hk8:k<8:=by omega
  have hk1:x.kind=(k:Int)+1:=by omega
  have hw1:IntKind.i64.wrap (x.kind - 1)=(k:Int):=by rw [IntKind.wrap_i64] <;> omega
  have n0:¬ x.kind=0:=by omega
  have n9:¬ x.kind=9:=by omega
  have n10:¬ x.kind=10:=by omega
  have n11:¬ x.kind=11:=by omega
  have HOV:Hid (ofVersion x.kind=true):=by unfold Hid ofVersion; simp; omega
  have HTX:=Lib.hid (HTX.out h3)
  rw [hk] at HM
  have hk8i:(k:Int)<8:=by omega
  have hsz:(mk (ops.getD k [])).size+(mk (vtext x.v)).size≤9223372036854775807:=by
   rw [HM.out,List.length_append] at hlen
   rw [mk_size,mk_size]; omega
  clear hlen
  have q9:(x.kind == 9)=false:=by simp [n9]
  have q10:(x.kind == 10)=false:=by simp [n10]
  clear hk h1 h2 h3 hk1
  go_wp2_with fail
  refine (ofVersion_any x.kind W).mono ?_
  rintro e w' ⟨rfl,rfl⟩
  rw [HOV.out]
  go_upto_region 8 with (fail)
  have HBd:Hid (Below w.heap.size w w'.drew):=HB.out.drew
  have HRAd:Hid (RAt w'.drew w.heap.size x):=HRA.out
  have HTd:Hid (OpsTab w'.drew):=HT.out
  clear HB HRA HT
  refine wp_region_held_drew (S:=fun w'=>RAt w' w.heap.size x∧OpsTab w') (by kernel_rfl) ⟨HRAd.out,HTd.out⟩ (fun hHeld=>?_)
  refine tk 0 rfl (.pointer (some ⟨w.heap.size,0,none⟩)) ?_
  refine tk 1 rfl x.kind ?_ fun w' hS'=>by obtain ⟨y1,y2,c0,c1,c2,c3,c4,c5,c6⟩:=hS'.1; go_simp
  refine tk 2 rfl (.int .i64 k) ?_
  refine tk 3 rfl (.pointer (some ⟨0,k,none⟩)) ?_
  refine tk 4 rfl (.string (mk (ops.getD k []))) ?_ fun w' hS'=>by have x4:=hS'.2 k hk8; go_simp
  refine tk 5 rfl (.pointer (some ⟨w.heap.size,1,none⟩)) ?_
  refine tk 6 rfl (.agg #[x.v.a,x.v.b,x.v.c,.slice x.A x.v.pre.length x.c,.slice x.B x.v.build.length x.d]) ?_ fun w' hS'=>by obtain ⟨y1,y2,c0,c1,c2,c3,c4,c5,c6⟩:=hS'.1; go_simp
  refine cl 7 rfl fun K hK=>?_
  go_simp
  refine (HTX.out _ HBd.out).mono ?_
  rintro e wm1 ⟨rfl,hb⟩
  have HB2:=Lib.hid (HBd.out.trans (hb.mono HBd.out.size))
  have HRA1:Hid (RAt wm1 w.heap.size x):=HRAd.out.kept hb HRAd.out.1
  have HT1:Hid (OpsTab wm1):=HTd.out.keep (Keep.of_below hb)
  clear hb hHeld
  refine hK.out _ _ ⟨HRA1.out,HT1.out⟩ (fun hHeld=>?_)
  clear hK K
  try simp only [Act.put,p1,p2,p3]
  refine tk 8 rfl (.string (mk (ops.getD k []) ++ mk (vtext x.v))) ?_ fun w' hS'=>by go_simp; exact hsz
  refine tk 9 rfl (.string (mk (ops.getD k []) ++ mk (vtext x.v))) ?_
  refine wpAnyH_done (by kernel_rfl) ?_ _
  go_wp2
  go_ret
  exact ⟨by rw [HM.out,← mk_cat]; rfl,HB2.out⟩
end Go.Proofs.YtgfbflnhjpbceaaGreatDoor.Range
namespace Go.Proofs.YtgfbflnhjpbceaaGreatDoor.Range
open Go.RowKit Num Ident Semver

theorem rgInfo:(Tryz.prog.info? 28).map (fun i=>(i.zero,i.size,i.bytes))=some (some (.agg #[.int .i64 0,.int .u64 0,.int .u64 0,.int .u64 0,.slice none 0 0,.slice none 0 0,.slice none 0 0]),7,104):=by kernel_rfl
theorem wpList_append_rg (w:World) {ops:Array Oper} {rest:List Oper} {o:Oper} {a:Act} {Q:Exit→Act→World→Prop} (hgd:o.guard=none) (s x:Operand)
  (ho:o.op=.call { callee:=.builtin .append,args:=#[s,x],argTypes:=#[26,26] })
  (base:Nat) (v:Value) (n:Nat) (xs:List RV) (hs:a.eval s=v) (hown:w.ownsRow base 28 7 v n (xs.flatMap RV.vals))
  (ad:Addr) (y:RV) (hx:a.eval x=.slice (some ad) 1 1) (hnews:∀ j u,y.vals[j]?=some u→w.cell? (ad.add j)=some u) (hb:(n+1) * 104≤140737488355328) (hbase:base≤w.heap.size)
  (h:∀ v' w',w'.ownsRow base 28 7 v' (n+1) ((xs ++ [y]).flatMap RV.vals)→w.grownBy w' v.ownBlock→(v'.ownBlock=v.ownBlock∨v'.ownBlock=some w.heap.size)→wpList Tryz.prog ops Q rest (a.put o.dst v') w'):wpList Tryz.prog ops Q (o :: rest) a w:=by
 obtain ⟨i,hi,hz,hsz,hby⟩:=info_parts rgInfo
 refine wpList_append_own_at w hgd s x 26 ho base 28 i _ 7 104 Tryz.underlying26 hi hz hsz hby rfl (by omega) v n _ hs hown ad 1 1 y.vals hx rfl hnews (rv_one y) (by unfold maxLen; omega) hb hbase (fun v' w' h2 h3 _ h5=>?_)
 exact h v' w' (by rw [List.flatMap_append]; simpa using h2) h3 h5
def Elems (B:Nat) (v:Value) (g:Nat):Prop:=B≤g∧some g≠v.ownBlock
structure OwnRg (w:World) (B:Nat) (v:Value) (l:List Rng) (xs:List RV):Prop where
 own:w.ownsRow B 28 7 v l.length (xs.flatMap RV.vals)
 len:xs.length=l.length
 lies:∀ j,j<l.length→Lies w (Elems B v) (l.getD j noRng) (xs.getD j default)
theorem OwnRg.nil (w:World) (B:Nat):OwnRg w B (.slice none 0 0) [] []:=⟨World.ownsRow_nil _ _ _ _,rfl,fun _ hj=>absurd hj (Nat.not_lt_zero _)⟩
theorem OwnRg.kept {w w':World} {B:Nat} {v:Value} {l:List Rng} {xs:List RV} (h:OwnRg w B v l xs) (k:Below w.heap.size w w'):OwnRg w' B v l xs:=⟨own_below h.own k,h.len,fun j hj=>(h.lies j hj).keep (KeepS.of_below k)⟩
theorem OwnRg.moved {w w':World} {B b:Nat} {v:Value} {l:List Rng} {xs:List RV} (h:OwnRg w B v l xs) (k:Moved b w w') (hb:b<B):OwnRg w' B v l xs:=by
 refine ⟨h.own.kept (row:=some b) ⟨k.os,k.tape,k.output,k.size,fun i hi hne=>k.block i hi (fun e=>hne (by rw [e]))⟩ ?_,h.len,fun j hj=>(h.lies j hj).keep (KeepS.moved k (fun e=>by have:=e.1; omega))⟩
 cases hv:v.ownBlock with
 | none=>exact .inl rfl
 | some g=>right; intro e; injection e with e; have:=(h.own.lt g hv).1; omega
theorem OwnRg.more {w w':World} {B:Nat} {v v':Value} {l:List Rng} {xs:List RV} {r:Rng} {x:RV} {W0:Nat} (h:OwnRg w B v l xs) (ho:w'.ownsRow B 28 7 v' (l.length+1) ((xs ++ [x]).flatMap RV.vals)) (hg:w.grownBy w' v.ownBlock) (hat:v'.ownBlock=v.ownBlock∨v'.ownBlock=some w.heap.size) (hx:Lies w (From W0) r x) (hW:B≤W0) (hv:∀ g,v.ownBlock=some g→g<W0):OwnRg w' B v' (l ++ [r]) (xs ++ [x]):=by
 have hel:∀ (q:Rng) (y:RV),Lies w (Elems B v) q y→Lies w' (Elems B v') q y:=fun q y hq=>by
  have h1:Lies w (fun g=>Elems B v g∧Elems B v' g) q y:=hq.mono fun g hS hlt=>⟨hS,hS.1,by
   rcases hat with e | e
   ·rw [e]; exact hS.2
   ·rw [e]; intro h; injection h with h; omega⟩
  exact (h1.keep (KeepS.grown hg fun g hS=>hS.1.2)).mono fun g hS _=>hS.2
 have hnew:Lies w (Elems B v) r x:=hx.mono fun g hS _=>⟨Nat.le_trans hW hS,fun e=>by have:=hv g e.symm; unfold From at hS; omega⟩
 refine ⟨by rw [List.length_append]; exact ho,by rw [List.length_append,List.length_append,h.len]; rfl,fun k hk=>?_⟩
 rw [List.length_append,List.length_singleton] at hk
 by_cases hlt:k<l.length
 ·have e1:(l ++ [r]).getD k noRng=l.getD k noRng:=by simp [List.getD,List.getElem?_append_left hlt]
  have e2:(xs ++ [x]).getD k default=xs.getD k default:=by simp [List.getD,List.getElem?_append_left (show k<xs.length by rw [h.len]; exact hlt)]
  rw [e1,e2]; exact hel _ _ (h.lies k hlt)
 ·have ek:k=l.length:=by omega
  have e1:(l ++ [r]).getD k noRng=r:=by rw [ek]; simp [List.getD]
  have e2:(xs ++ [x]).getD k default=x:=by rw [ek,← h.len]; simp [List.getD]
  rw [e1,e2]; exact hel _ _ hnew
theorem OwnRg.row {w:World} {B:Nat} {v:Value} {l:List Rng} {xs:List RV} (h:OwnRg w B v l xs):∃ L e,v=.slice L l.length e∧l.length≤e∧(L=none→e=0)∧RgRow w (From B) L l.length l :=
 RgRow.of_own h.own (fun _ hg=>hg) h.len rfl fun j hj=>(h.lies j hj).mono fun _ hS _=>hS.1
theorem RgPost.alloc {b:Nat} {A:Option Addr} {n c:Nat} {l:List UInt8} {w W:World} {t:Out} {e:Ending} (h:RgPost b A n c l w t e W) (hb:b<w.heap.size) (o:Obj):RgPost b A n c l w t e (W.alloc o):=by
 obtain ⟨x,q,h1,h2,h3,h4,h5⟩:=h
 exact ⟨x,q,h1,h2.keep (KeepS.alloc _ _),h3,h4.alloc _,h5.alloc hb _⟩
end Go.Proofs.YtgfbflnhjpbceaaGreatDoor.Range
