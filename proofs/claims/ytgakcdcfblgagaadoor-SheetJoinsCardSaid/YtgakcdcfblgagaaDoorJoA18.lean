/-
  What the theorem of the last text needs of these: ShIntoR, ShIntoP. Conditions: as each theorem states.
-/
import Derived.Test.YtgakcdcfblgagaaDoorJoA1
import Derived.Test.YtgakcdcfblgagaaDoorJoA16
set_option maxRecDepth 100000
set_option maxHeartbeats 25600000
namespace Go.Proofs.YtgakcdcfblgagaaDoor.Sheet
open Go.RowKit Num Ident Semver Fr
open KR (KRow AtV)
open Model (PDep PRel PPack MDep MVer MRel MPack MPin DepOk VerOk RelOk PackOk PinOk DRow RRow PRow)

theorem intoR_any (lb b o n c ob tb B m F:Nat) (q:Option (Nat × Nat)) (v:Value) (xs:List MRel) (Is:MRel→Prop) (g1 g2:Nat) (l1 l2:Array Value) (w:World) (hob:AtV w ob [.func (.func g1) #[] l1]) (htb:AtV w tb [.func (.func g2) #[] l2])
  (e1:∀ args w,(callFunc g1 args).run Tryd.prog w=.ok (.enter g1 args) w) (e2:∀ args w,(callFunc g2 args).run Tryd.prog w=.ok (.enter g2 args) w)
  (hown:∀ W,Below w.heap.size w W→Calls Tryd.prog g1 l1 W fun e w'=>e=.returned (.pointer (q.map fun a=>⟨a.1,a.2,none⟩))∧Below W.heap.size W w')
  (htell:q≠none→∀ W,Below w.heap.size w W→Calls Tryd.prog g2 (#[.pointer (some ⟨lb,0,none⟩)] ++ l2) W fun e w'=>∃ x:MRel,e=.returned (.tuple #[x.agg,.int .i64 F])∧(F=0→Is x∧RelOk w' (fun g=>W.heap.size≤g∧g<w'.heap.size) x)∧But (fun g=>g=lb) W w'∧LnE w' lb b o n c)
  (hslot:∀ a,q=some a→Slot MRel.vals 8 47 w B a.1 a.2 v m xs∧a.1<lb∧∀ g,v.ownBlock=some g→g<lb) (hm:m≤100000000) (hln:LnE w lb b o n c) :
  Calls Tryd.prog 55 #[.pointer (some ⟨lb,0,none⟩),.pointer (some ⟨ob,0,none⟩),.pointer (some ⟨tb,0,none⟩)] w fun e w'=>LnE w' lb b o n c∧((q=none∧e=.returned (.int .i64 13)∧But (fun g=>g=lb) w w')∨∃ a,q=some a∧e=.returned (.int .i64 F)∧((F≠0∧But (fun g=>g=lb) w w')∨(F=0∧Kept MRel.vals 8 47 RelOk Is w lb B a.1 a.2 v m xs w'))):=by
 have HO:=Lib.hid hown
 have HT:=Lib.hid htell
 have HSL:=Lib.hid hslot
 have HOB:=Lib.hid hob
 have HTB:=Lib.hid htb
 have HLN:=Lib.hid hln
 have c0:=hob.at_ 0 _ rfl
 have hol:=hob.lt
 clear hown htell hslot hob htb hln
 cases q with
 | none =>
  go_enter Tryd.func55,Tryd.ntmps55
  go_wp2_with (go_at_fn g1; refine (HO.out w (Below.refl _ _)).mono ?_; rintro e w1 ⟨rfl,hb⟩)
  go_ret
  exact ⟨HLN.out.oth (But.of_same hb fun _=>False) fun g=>g,.inl ⟨by trivial,rfl,But.of_same hb _⟩⟩
 | some a =>
  obtain ⟨qb,qo⟩:=a
  obtain ⟨hsl,hq2,hv2⟩:=HSL.out _ rfl
  have HS0:=Lib.hid hsl
  have HV2:=Lib.hid hv2
  have HTL:=Lib.hid (HT.out (by simp))
  have d0:=HTB.out.at_ 0 _ rfl
  have tl:=HTB.out.lt
  clear hsl hv2 HSL HT
  have STEP:Hid (∀ W,Below w.heap.size w W→W.cell? ⟨tb,0,none⟩=some (.func (.func g2) #[] l2)):=fun W hB=>(hB.cell (p:=⟨tb,0,none⟩) tl).trans d0
  by_cases h0:F=0
  ·have hFb:((F:Int) == 0)=true:=by rw [h0]; rfl
   have H0:=Lib.hid h0
   clear h0
   go_enter Tryd.func55,Tryd.ntmps55
   go_upto_region 6 with (first
    | (go_at_fn g1; refine (HO.out w (Below.refl _ _)).mono ?_; rintro e w1 ⟨rfl,hb1⟩; have e0:=STEP.out w1 hb1)
    | (go_at_fn g2; refine (HTL.out w1 hb1).mono ?_; rintro e w2 ⟨x,rfl,hx,hb2,hl2⟩; unfold MRel.agg; have HX:=Lib.hid hx; have HB1:=Lib.hid hb1; have HB2:=Lib.hid hb2; have HL2:=Lib.hid hl2; clear hx hb1 hb2 hl2 e0))
   have HA3:Hid (Below w2.heap.size w2 (w2.alloc (.cells #[x.ver.v.a,x.ver.v.b,x.ver.v.c,.slice x.ver.A x.ver.v.pre.length x.ver.c,.slice x.ver.B x.ver.v.build.length x.ver.d,.bool x.yanked,.slice x.N x.needs.length x.nc,.slice x.B x.bans.length x.bc] 47))):=(Below.refl _ _).alloc (Nat.le_refl _) _
   have HD3:Hid (AtV (w2.alloc (.cells #[x.ver.v.a,x.ver.v.b,x.ver.v.c,.slice x.ver.A x.ver.v.pre.length x.ver.c,.slice x.ver.B x.ver.v.build.length x.ver.d,.bool x.yanked,.slice x.N x.needs.length x.nc,.slice x.B x.bans.length x.bc] 47)) w2.heap.size [.int .u64 x.ver.v.a,.int .u64 x.ver.v.b,.int .u64 x.ver.v.c,.slice x.ver.A x.ver.v.pre.length x.ver.c,.slice x.ver.B x.ver.v.build.length x.ver.d,.bool x.yanked,.slice x.N x.needs.length x.nc,.slice x.B x.bans.length x.bc]):=AtV.new w2 _ _
   obtain ⟨db,hdb⟩:∃ db,w2.heap.size=db:=⟨_,rfl⟩
   have HDB:=Lib.hid hdb
   rw [hdb] at HD3 ⊢
   clear hdb
   generalize w2.alloc (.cells #[x.ver.v.a,x.ver.v.b,x.ver.v.c,.slice x.ver.A x.ver.v.pre.length x.ver.c,.slice x.ver.B x.ver.v.build.length x.ver.d,.bool x.yanked,.slice x.N x.needs.length x.nc,.slice x.B x.bans.length x.bc] 47)=w3 at HA3 HD3 ⊢
   have HB3:Hid (But (fun g=>g=lb) w w3):=((But.of_same HB1.out _).trans HB2.out fun i e=>.inl e).trans (But.of_same HA3.out fun _=>False) fun i g=>g.elim
   have HBd:Hid (But (fun g=>g=lb) w w3.drew):=HB3.out.drew
   have HDd:Hid (AtV w3.drew db [.int .u64 x.ver.v.a,.int .u64 x.ver.v.b,.int .u64 x.ver.v.c,.slice x.ver.A x.ver.v.pre.length x.ver.c,.slice x.ver.B x.ver.v.build.length x.ver.d,.bool x.yanked,.slice x.N x.needs.length x.nc,.slice x.B x.bans.length x.bc]):=HD3.out.kept (Below.refl _ _).drew HD3.out.lt
   have HLd:Hid (LnE w3.drew lb b o n c):=(HL2.out.oth (But.of_same HA3.out fun _=>False) fun g=>g).oth (But.of_same (Below.refl _ _).drew fun _=>False) fun g=>g
   have HXd:Hid (Is x∧RelOk w3.drew (fun g=>w1.heap.size≤g∧g<w2.heap.size) x):=⟨(HX.out H0.out).1,((HX.out H0.out).2.keep (Range.KeepS.of_below HA3.out)).keep (Range.KeepS.of_below (Below.refl _ _).drew)⟩
   have HZ:Hid (w.heap.size≤w1.heap.size∧w2.heap.size≤w3.drew.heap.size):=⟨HB1.out.size,HA3.out.size⟩
   refine wp_region_held_drew (S:=fun _=>True) (by kernel_rfl) trivial (fun _=>?_)
   generalize w3.drew=wd at HBd HDd HLd HXd HZ ⊢
   have HSd:=Lib.hid (HS0.out.oth HBd.out (Nat.ne_of_lt hq2) fun g e=>Nat.ne_of_lt (HV2.out g e))
   have HA5:Hid (Below wd.heap.size wd (wd.alloc (.cells #[x.ver.v.a,x.ver.v.b,x.ver.v.c,.slice x.ver.A x.ver.v.pre.length x.ver.c,.slice x.ver.B x.ver.v.build.length x.ver.d,.bool x.yanked,.slice x.N x.needs.length x.nc,.slice x.B x.bans.length x.bc] 47))):=(Below.refl _ _).alloc (Nat.le_refl _) _
   have HN5:Hid (∀ j u,(MRel.vals x)[j]?=some u→(wd.alloc (.cells #[x.ver.v.a,x.ver.v.b,x.ver.v.c,.slice x.ver.A x.ver.v.pre.length x.ver.c,.slice x.ver.B x.ver.v.build.length x.ver.d,.bool x.yanked,.slice x.N x.needs.length x.nc,.slice x.B x.bans.length x.bc] 47)).cell? ((⟨wd.heap.size,0,none⟩:Addr).add j)=some u):=news_new wd (MRel.vals x) _
   have HS5:=Lib.hid (HSd.out.oth (But.of_same HA5.out fun _=>False) (fun g=>g) fun _ _ g=>g)
   obtain ⟨v',wa,hrun,hown,hgr,hat⟩:=run_append_at Tryd.underlying39 relInfo rfl Model.rel_len (by omega) rel_one _ 39 B v m xs HS5.out.own ⟨wd.heap.size,0,none⟩ 1 x HN5.out (by unfold maxLen; omega) (by omega) HS5.out.base
   obtain ⟨A',c',rfl⟩:=slice_of hown
   have cq:=HSd.out.cell
   have fq:=HSd.out.fr
   have hqn:v.ownBlock≠some qb:=fun e=>HSd.out.ne qb e rfl
   have ca:wa.cell? ⟨qb,qo,none⟩=some v:=((But.of_grown (T:=fun k=>v.ownBlock=some k) hgr fun _ e=>e).cell HS5.out.lt hqn).trans HS5.out.cell
   have fa:wa.frozen? ⟨qb,qo,none⟩=false:=((But.of_grown (T:=fun k=>v.ownBlock=some k) hgr fun _ e=>e).frozen HS5.out.lt hqn).trans HS5.out.fr
   have hlo:v.ownBlock≠some lb:=fun e=>by have:=HV2.out lb e; omega
   have HLF:Hid (LnE (wa.setCell ⟨qb,qo,none⟩ (.slice A' (m+1) c')) lb b o n c):=((HLd.out.oth (But.of_same HA5.out fun _=>False) fun g=>g).oth (But.of_grown (T:=fun k=>v.ownBlock=some k) hgr fun _ e=>e) hlo).oth (but_one wa qb qo (.slice A' (m+1) c')) (by omega)
   have HKP:Hid (Kept MRel.vals 8 47 RelOk Is w lb B qb qo v m xs (wa.setCell ⟨qb,qo,none⟩ (.slice A' (m+1) c'))):=⟨x,.slice A' (m+1) c',_,wa,HXd.out.1,RelOk.mono (HXd.out.2.keep (Range.KeepS.of_below HA5.out)) fun g hg _=>⟨Nat.le_trans HZ.out.1 hg.1,Nat.lt_of_lt_of_le hg.2 (Nat.le_trans HZ.out.2 HA5.out.size)⟩,HBd.out.trans (But.of_same HA5.out fun _=>False) (fun i g=>g.elim),hgr,hown,hat,rfl⟩
   clear hown hgr hat
   have d0:=HDd.out.at_ 0 _ rfl
   have g0:=((But.of_same HA5.out fun _=>False).cell HDd.out.lt (fun g=>g)).trans d0
   have d1:=HDd.out.at_ 1 _ rfl
   have g1:=((But.of_same HA5.out fun _=>False).cell HDd.out.lt (fun g=>g)).trans d1
   have d2:=HDd.out.at_ 2 _ rfl
   have g2:=((But.of_same HA5.out fun _=>False).cell HDd.out.lt (fun g=>g)).trans d2
   have d3:=HDd.out.at_ 3 _ rfl
   have g3:=((But.of_same HA5.out fun _=>False).cell HDd.out.lt (fun g=>g)).trans d3
   have d4:=HDd.out.at_ 4 _ rfl
   have g4:=((But.of_same HA5.out fun _=>False).cell HDd.out.lt (fun g=>g)).trans d4
   have d5:=HDd.out.at_ 5 _ rfl
   have g5:=((But.of_same HA5.out fun _=>False).cell HDd.out.lt (fun g=>g)).trans d5
   have d6:=HDd.out.at_ 6 _ rfl
   have g6:=((But.of_same HA5.out fun _=>False).cell HDd.out.lt (fun g=>g)).trans d6
   have d7:=HDd.out.at_ 7 _ rfl
   have g7:=((But.of_same HA5.out fun _=>False).cell HDd.out.lt (fun g=>g)).trans d7
   refine tk 0 rfl (.pointer (some ⟨qb,qo,none⟩)) ?_
   refine tk 1 rfl (.pointer (some ⟨qb,qo,none⟩)) ?_
   refine tk 2 rfl (.pointer (some ⟨qb,qo,none⟩)) ?_
   have cq5:=HS5.out.cell
   refine wpAnyH_ready (rs:=[3,4]) (by kernel_rfl) (by simp) ?_
   refine AllReadyH.cons (nth_ops (i:=3) rfl) (fun K hK=>?_) (AllReadyH.cons (nth_ops (i:=4) rfl) (fun K hK=>?_) AllReadyH.nil)
   ·go_simp
    refine hK.out _ _ trivial (fun _=>?_)
    clear hK K
    try simp only [Act.put,p1,p2,p3]
    refine cl 4 rfl fun K hK=>?_
    go_simp
    refine hK.out _ _ trivial (fun _=>?_)
    clear hK K
    try simp only [Act.put,p1,p2,p3]
    refine cl 5 rfl fun K hK=>?_
    go_simp
    refine hK.out _ _ trivial (fun _=>?_)
    clear hK K
    try simp only [Act.put,p1,p2,p3]
    refine cl 6 rfl fun K hK=>?_
    refine KR.region_append (by rfl) _ _ rfl rfl rfl hrun ?_
    refine hK.out _ _ trivial (fun _=>?_)
    clear hK K
    try simp only [Act.put,p1,p2,p3]
    refine tk 7 rfl (.pointer (some ⟨qb,qo,none⟩)) ?_
    refine cl 8 rfl fun K hK=>?_
    go_simp
    refine hK.out _ _ trivial (fun _=>?_)
    clear hK K
    try simp only [Act.put,p1,p2,p3]
    refine wpAnyH_done (by kernel_rfl) ?_ _
    clear cq fq ca fa hrun
    go_wp2
    go_ret
    exact ⟨HLF.out,.inr ⟨_,rfl,by first | rfl | (rw [H0.out]; rfl),.inr ⟨H0.out,HKP.out⟩⟩⟩
   ·go_simp
    refine hK.out _ _ trivial (fun _=>?_)
    clear hK K
    try simp only [Act.put,p1,p2,p3]
    refine wpAnyH_ready (rs:=[3,5]) (by kernel_rfl) (by simp) ?_
    refine AllReadyH.cons (nth_ops (i:=3) rfl) (fun K hK=>?_) (AllReadyH.cons (nth_ops (i:=5) rfl) (fun K hK=>?_) AllReadyH.nil)
    ·go_simp
     refine hK.out _ _ trivial (fun _=>?_)
     clear hK K
     try simp only [Act.put,p1,p2,p3]
     refine cl 5 rfl fun K hK=>?_
     go_simp
     refine hK.out _ _ trivial (fun _=>?_)
     clear hK K
     try simp only [Act.put,p1,p2,p3]
     refine cl 6 rfl fun K hK=>?_
     refine KR.region_append (by rfl) _ _ rfl rfl rfl hrun ?_
     refine hK.out _ _ trivial (fun _=>?_)
     clear hK K
     try simp only [Act.put,p1,p2,p3]
     refine tk 7 rfl (.pointer (some ⟨qb,qo,none⟩)) ?_
     refine cl 8 rfl fun K hK=>?_
     go_simp
     refine hK.out _ _ trivial (fun _=>?_)
     clear hK K
     try simp only [Act.put,p1,p2,p3]
     refine wpAnyH_done (by kernel_rfl) ?_ _
     clear cq fq ca fa hrun
     go_wp2
     go_ret
     exact ⟨HLF.out,.inr ⟨_,rfl,by first | rfl | (rw [H0.out]; rfl),.inr ⟨H0.out,HKP.out⟩⟩⟩
    ·go_simp
     refine hK.out _ _ trivial (fun _=>?_)
     clear hK K
     try simp only [Act.put,p1,p2,p3]
     refine cl 3 rfl fun K hK=>?_
     go_simp
     refine hK.out _ _ trivial (fun _=>?_)
     clear hK K
     try simp only [Act.put,p1,p2,p3]
     refine cl 6 rfl fun K hK=>?_
     refine KR.region_append (by rfl) _ _ rfl rfl rfl hrun ?_
     refine hK.out _ _ trivial (fun _=>?_)
     clear hK K
     try simp only [Act.put,p1,p2,p3]
     refine tk 7 rfl (.pointer (some ⟨qb,qo,none⟩)) ?_
     refine cl 8 rfl fun K hK=>?_
     go_simp
     refine hK.out _ _ trivial (fun _=>?_)
     clear hK K
     try simp only [Act.put,p1,p2,p3]
     refine wpAnyH_done (by kernel_rfl) ?_ _
     clear cq fq ca fa hrun
     go_wp2
     go_ret
     exact ⟨HLF.out,.inr ⟨_,rfl,by first | rfl | (rw [H0.out]; rfl),.inr ⟨H0.out,HKP.out⟩⟩⟩
  ·have hFb:((F:Int) == 0)=false:=by rw [beq_eq_false_iff_ne]; omega
   have H0:=Lib.hid h0
   clear h0
   go_enter Tryd.func55,Tryd.ntmps55
   go_wp2_with (first
    | (go_at_fn g1; refine (HO.out w (Below.refl _ _)).mono ?_; rintro e w1 ⟨rfl,hb1⟩; have e0:=STEP.out w1 hb1)
    | (go_at_fn g2; refine (HTL.out w1 hb1).mono ?_; rintro e w2 ⟨x,rfl,hx,hb2,hl2⟩; unfold MRel.agg; have HX:=Lib.hid hx; have HB1:=Lib.hid hb1; have HB2:=Lib.hid hb2; have HL2:=Lib.hid hl2; clear hx hb1 hb2 hl2 e0))
   go_ret
   have hB:But (fun g=>g=lb) w w2:=(But.of_same HB1.out _).trans HB2.out fun i e=>.inl e
   exact ⟨HL2.out.oth (But.alloc (But.refl (fun _=>False) w2) _) fun g=>g,.inr ⟨_,rfl,rfl,.inl ⟨H0.out,hB.alloc _⟩⟩⟩
end Go.Proofs.YtgakcdcfblgagaaDoor.Sheet
namespace Go.Proofs.YtgakcdcfblgagaaDoor.Sheet
open Go.RowKit Num Ident Semver Fr
open KR (KRow AtV)
open Model (PDep PRel PPack MDep MVer MRel MPack MPin DepOk VerOk RelOk PackOk PinOk DRow RRow PRow)

theorem intoP_any (lb b o n c ob tb B m F:Nat) (q:Option (Nat × Nat)) (v:Value) (xs:List MPack) (Is:MPack→Prop) (g1 g2:Nat) (l1 l2:Array Value) (w:World) (hob:AtV w ob [.func (.func g1) #[] l1]) (htb:AtV w tb [.func (.func g2) #[] l2])
  (e1:∀ args w,(callFunc g1 args).run Tryd.prog w=.ok (.enter g1 args) w) (e2:∀ args w,(callFunc g2 args).run Tryd.prog w=.ok (.enter g2 args) w)
  (hown:∀ W,Below w.heap.size w W→Calls Tryd.prog g1 l1 W fun e w'=>e=.returned (.pointer (q.map fun a=>⟨a.1,a.2,none⟩))∧Below W.heap.size W w')
  (htell:q≠none→∀ W,Below w.heap.size w W→Calls Tryd.prog g2 (#[.pointer (some ⟨lb,0,none⟩)] ++ l2) W fun e w'=>∃ x:MPack,e=.returned (.tuple #[x.agg,.int .i64 F])∧(F=0→Is x∧PackOk w' (fun g=>W.heap.size≤g∧g<w'.heap.size) x)∧But (fun g=>g=lb) W w'∧LnE w' lb b o n c)
  (hslot:∀ a,q=some a→Slot MPack.vals 2 41 w B a.1 a.2 v m xs∧a.1<lb∧∀ g,v.ownBlock=some g→g<lb) (hm:m≤100000000) (hln:LnE w lb b o n c) :
  Calls Tryd.prog 53 #[.pointer (some ⟨lb,0,none⟩),.pointer (some ⟨ob,0,none⟩),.pointer (some ⟨tb,0,none⟩)] w fun e w'=>LnE w' lb b o n c∧((q=none∧e=.returned (.int .i64 13)∧But (fun g=>g=lb) w w')∨∃ a,q=some a∧e=.returned (.int .i64 F)∧((F≠0∧But (fun g=>g=lb) w w')∨(F=0∧Kept MPack.vals 2 41 PackOk Is w lb B a.1 a.2 v m xs w'))):=by
 have HO:=Lib.hid hown
 have HT:=Lib.hid htell
 have HSL:=Lib.hid hslot
 have HOB:=Lib.hid hob
 have HTB:=Lib.hid htb
 have HLN:=Lib.hid hln
 have c0:=hob.at_ 0 _ rfl
 have hol:=hob.lt
 clear hown htell hslot hob htb hln
 cases q with
 | none =>
  go_enter Tryd.func53,Tryd.ntmps53
  go_wp2_with (go_at_fn g1; refine (HO.out w (Below.refl _ _)).mono ?_; rintro e w1 ⟨rfl,hb⟩)
  go_ret
  exact ⟨HLN.out.oth (But.of_same hb fun _=>False) fun g=>g,.inl ⟨by trivial,rfl,But.of_same hb _⟩⟩
 | some a =>
  obtain ⟨qb,qo⟩:=a
  obtain ⟨hsl,hq2,hv2⟩:=HSL.out _ rfl
  have HS0:=Lib.hid hsl
  have HV2:=Lib.hid hv2
  have HTL:=Lib.hid (HT.out (by simp))
  have d0:=HTB.out.at_ 0 _ rfl
  have tl:=HTB.out.lt
  clear hsl hv2 HSL HT
  have STEP:Hid (∀ W,Below w.heap.size w W→W.cell? ⟨tb,0,none⟩=some (.func (.func g2) #[] l2)):=fun W hB=>(hB.cell (p:=⟨tb,0,none⟩) tl).trans d0
  by_cases h0:F=0
  ·have hFb:((F:Int) == 0)=true:=by rw [h0]; rfl
   have H0:=Lib.hid h0
   clear h0
   go_enter Tryd.func53,Tryd.ntmps53
   go_upto_region 6 with (first
    | (go_at_fn g1; refine (HO.out w (Below.refl _ _)).mono ?_; rintro e w1 ⟨rfl,hb1⟩; have e0:=STEP.out w1 hb1)
    | (go_at_fn g2; refine (HTL.out w1 hb1).mono ?_; rintro e w2 ⟨x,rfl,hx,hb2,hl2⟩; unfold MPack.agg; have HX:=Lib.hid hx; have HB1:=Lib.hid hb1; have HB2:=Lib.hid hb2; have HL2:=Lib.hid hl2; clear hx hb1 hb2 hl2 e0))
   have HA3:Hid (Below w2.heap.size w2 (w2.alloc (.cells #[.string (Ident.mk x.name),.slice x.R x.rels.length x.rc] 41))):=(Below.refl _ _).alloc (Nat.le_refl _) _
   have HD3:Hid (AtV (w2.alloc (.cells #[.string (Ident.mk x.name),.slice x.R x.rels.length x.rc] 41)) w2.heap.size [.string (Ident.mk x.name),.slice x.R x.rels.length x.rc]):=AtV.new w2 _ _
   obtain ⟨db,hdb⟩:∃ db,w2.heap.size=db:=⟨_,rfl⟩
   have HDB:=Lib.hid hdb
   rw [hdb] at HD3 ⊢
   clear hdb
   generalize w2.alloc (.cells #[.string (Ident.mk x.name),.slice x.R x.rels.length x.rc] 41)=w3 at HA3 HD3 ⊢
   have HB3:Hid (But (fun g=>g=lb) w w3):=((But.of_same HB1.out _).trans HB2.out fun i e=>.inl e).trans (But.of_same HA3.out fun _=>False) fun i g=>g.elim
   have HBd:Hid (But (fun g=>g=lb) w w3.drew):=HB3.out.drew
   have HDd:Hid (AtV w3.drew db [.string (Ident.mk x.name),.slice x.R x.rels.length x.rc]):=HD3.out.kept (Below.refl _ _).drew HD3.out.lt
   have HLd:Hid (LnE w3.drew lb b o n c):=(HL2.out.oth (But.of_same HA3.out fun _=>False) fun g=>g).oth (But.of_same (Below.refl _ _).drew fun _=>False) fun g=>g
   have HXd:Hid (Is x∧PackOk w3.drew (fun g=>w1.heap.size≤g∧g<w2.heap.size) x):=⟨(HX.out H0.out).1,((HX.out H0.out).2.keep (Range.KeepS.of_below HA3.out)).keep (Range.KeepS.of_below (Below.refl _ _).drew)⟩
   have HZ:Hid (w.heap.size≤w1.heap.size∧w2.heap.size≤w3.drew.heap.size):=⟨HB1.out.size,HA3.out.size⟩
   refine wp_region_held_drew (S:=fun _=>True) (by kernel_rfl) trivial (fun _=>?_)
   generalize w3.drew=wd at HBd HDd HLd HXd HZ ⊢
   have HSd:=Lib.hid (HS0.out.oth HBd.out (Nat.ne_of_lt hq2) fun g e=>Nat.ne_of_lt (HV2.out g e))
   have HA5:Hid (Below wd.heap.size wd (wd.alloc (.cells #[.string (Ident.mk x.name),.slice x.R x.rels.length x.rc] 41))):=(Below.refl _ _).alloc (Nat.le_refl _) _
   have HN5:Hid (∀ j u,(MPack.vals x)[j]?=some u→(wd.alloc (.cells #[.string (Ident.mk x.name),.slice x.R x.rels.length x.rc] 41)).cell? ((⟨wd.heap.size,0,none⟩:Addr).add j)=some u):=news_new wd (MPack.vals x) _
   have HS5:=Lib.hid (HSd.out.oth (But.of_same HA5.out fun _=>False) (fun g=>g) fun _ _ g=>g)
   obtain ⟨v',wa,hrun,hown,hgr,hat⟩:=run_append_at Tryd.underlying34 packInfo rfl Model.pack_len (by omega) pack_one _ 34 B v m xs HS5.out.own ⟨wd.heap.size,0,none⟩ 1 x HN5.out (by unfold maxLen; omega) (by omega) HS5.out.base
   obtain ⟨A',c',rfl⟩:=slice_of hown
   have cq:=HSd.out.cell
   have fq:=HSd.out.fr
   have hqn:v.ownBlock≠some qb:=fun e=>HSd.out.ne qb e rfl
   have ca:wa.cell? ⟨qb,qo,none⟩=some v:=((But.of_grown (T:=fun k=>v.ownBlock=some k) hgr fun _ e=>e).cell HS5.out.lt hqn).trans HS5.out.cell
   have fa:wa.frozen? ⟨qb,qo,none⟩=false:=((But.of_grown (T:=fun k=>v.ownBlock=some k) hgr fun _ e=>e).frozen HS5.out.lt hqn).trans HS5.out.fr
   have hlo:v.ownBlock≠some lb:=fun e=>by have:=HV2.out lb e; omega
   have HLF:Hid (LnE (wa.setCell ⟨qb,qo,none⟩ (.slice A' (m+1) c')) lb b o n c):=((HLd.out.oth (But.of_same HA5.out fun _=>False) fun g=>g).oth (But.of_grown (T:=fun k=>v.ownBlock=some k) hgr fun _ e=>e) hlo).oth (but_one wa qb qo (.slice A' (m+1) c')) (by omega)
   have HKP:Hid (Kept MPack.vals 2 41 PackOk Is w lb B qb qo v m xs (wa.setCell ⟨qb,qo,none⟩ (.slice A' (m+1) c'))):=⟨x,.slice A' (m+1) c',_,wa,HXd.out.1,PackOk.mono (HXd.out.2.keep (Range.KeepS.of_below HA5.out)) fun g hg _=>⟨Nat.le_trans HZ.out.1 hg.1,Nat.lt_of_lt_of_le hg.2 (Nat.le_trans HZ.out.2 HA5.out.size)⟩,HBd.out.trans (But.of_same HA5.out fun _=>False) (fun i g=>g.elim),hgr,hown,hat,rfl⟩
   clear hown hgr hat
   have d0:=HDd.out.at_ 0 _ rfl
   have g0:=((But.of_same HA5.out fun _=>False).cell HDd.out.lt (fun g=>g)).trans d0
   have d1:=HDd.out.at_ 1 _ rfl
   have g1:=((But.of_same HA5.out fun _=>False).cell HDd.out.lt (fun g=>g)).trans d1
   refine tk 0 rfl (.pointer (some ⟨qb,qo,none⟩)) ?_
   refine tk 1 rfl (.pointer (some ⟨qb,qo,none⟩)) ?_
   refine tk 2 rfl (.pointer (some ⟨qb,qo,none⟩)) ?_
   have cq5:=HS5.out.cell
   refine wpAnyH_ready (rs:=[3,4]) (by kernel_rfl) (by simp) ?_
   refine AllReadyH.cons (nth_ops (i:=3) rfl) (fun K hK=>?_) (AllReadyH.cons (nth_ops (i:=4) rfl) (fun K hK=>?_) AllReadyH.nil)
   ·go_simp
    refine hK.out _ _ trivial (fun _=>?_)
    clear hK K
    try simp only [Act.put,p1,p2,p3]
    refine cl 4 rfl fun K hK=>?_
    go_simp
    refine hK.out _ _ trivial (fun _=>?_)
    clear hK K
    try simp only [Act.put,p1,p2,p3]
    refine cl 5 rfl fun K hK=>?_
    go_simp
    refine hK.out _ _ trivial (fun _=>?_)
    clear hK K
    try simp only [Act.put,p1,p2,p3]
    refine cl 6 rfl fun K hK=>?_
    refine KR.region_append (by rfl) _ _ rfl rfl rfl hrun ?_
    refine hK.out _ _ trivial (fun _=>?_)
    clear hK K
    try simp only [Act.put,p1,p2,p3]
    refine tk 7 rfl (.pointer (some ⟨qb,qo,none⟩)) ?_
    refine cl 8 rfl fun K hK=>?_
    go_simp
    refine hK.out _ _ trivial (fun _=>?_)
    clear hK K
    try simp only [Act.put,p1,p2,p3]
    refine wpAnyH_done (by kernel_rfl) ?_ _
    clear cq fq ca fa hrun
    go_wp2
    go_ret
    exact ⟨HLF.out,.inr ⟨_,rfl,by first | rfl | (rw [H0.out]; rfl),.inr ⟨H0.out,HKP.out⟩⟩⟩
   ·go_simp
    refine hK.out _ _ trivial (fun _=>?_)
    clear hK K
    try simp only [Act.put,p1,p2,p3]
    refine wpAnyH_ready (rs:=[3,5]) (by kernel_rfl) (by simp) ?_
    refine AllReadyH.cons (nth_ops (i:=3) rfl) (fun K hK=>?_) (AllReadyH.cons (nth_ops (i:=5) rfl) (fun K hK=>?_) AllReadyH.nil)
    ·go_simp
     refine hK.out _ _ trivial (fun _=>?_)
     clear hK K
     try simp only [Act.put,p1,p2,p3]
     refine cl 5 rfl fun K hK=>?_
     go_simp
     refine hK.out _ _ trivial (fun _=>?_)
     clear hK K
     try simp only [Act.put,p1,p2,p3]
     refine cl 6 rfl fun K hK=>?_
     refine KR.region_append (by rfl) _ _ rfl rfl rfl hrun ?_
     refine hK.out _ _ trivial (fun _=>?_)
     clear hK K
     try simp only [Act.put,p1,p2,p3]
     refine tk 7 rfl (.pointer (some ⟨qb,qo,none⟩)) ?_
     refine cl 8 rfl fun K hK=>?_
     go_simp
     refine hK.out _ _ trivial (fun _=>?_)
     clear hK K
     try simp only [Act.put,p1,p2,p3]
     refine wpAnyH_done (by kernel_rfl) ?_ _
     clear cq fq ca fa hrun
     go_wp2
     go_ret
     exact ⟨HLF.out,.inr ⟨_,rfl,by first | rfl | (rw [H0.out]; rfl),.inr ⟨H0.out,HKP.out⟩⟩⟩
    ·go_simp
     refine hK.out _ _ trivial (fun _=>?_)
     clear hK K
     try simp only [Act.put,p1,p2,p3]
     refine cl 3 rfl fun K hK=>?_
     go_simp
     refine hK.out _ _ trivial (fun _=>?_)
     clear hK K
     try simp only [Act.put,p1,p2,p3]
     refine cl 6 rfl fun K hK=>?_
     refine KR.region_append (by rfl) _ _ rfl rfl rfl hrun ?_
     refine hK.out _ _ trivial (fun _=>?_)
     clear hK K
     try simp only [Act.put,p1,p2,p3]
     refine tk 7 rfl (.pointer (some ⟨qb,qo,none⟩)) ?_
     refine cl 8 rfl fun K hK=>?_
     go_simp
     refine hK.out _ _ trivial (fun _=>?_)
     clear hK K
     try simp only [Act.put,p1,p2,p3]
     refine wpAnyH_done (by kernel_rfl) ?_ _
     clear cq fq ca fa hrun
     go_wp2
     go_ret
     exact ⟨HLF.out,.inr ⟨_,rfl,by first | rfl | (rw [H0.out]; rfl),.inr ⟨H0.out,HKP.out⟩⟩⟩
  ·have hFb:((F:Int) == 0)=false:=by rw [beq_eq_false_iff_ne]; omega
   have H0:=Lib.hid h0
   clear h0
   go_enter Tryd.func53,Tryd.ntmps53
   go_wp2_with (first
    | (go_at_fn g1; refine (HO.out w (Below.refl _ _)).mono ?_; rintro e w1 ⟨rfl,hb1⟩; have e0:=STEP.out w1 hb1)
    | (go_at_fn g2; refine (HTL.out w1 hb1).mono ?_; rintro e w2 ⟨x,rfl,hx,hb2,hl2⟩; unfold MPack.agg; have HX:=Lib.hid hx; have HB1:=Lib.hid hb1; have HB2:=Lib.hid hb2; have HL2:=Lib.hid hl2; clear hx hb1 hb2 hl2 e0))
   go_ret
   have hB:But (fun g=>g=lb) w w2:=(But.of_same HB1.out _).trans HB2.out fun i e=>.inl e
   exact ⟨HL2.out.oth (But.alloc (But.refl (fun _=>False) w2) _) fun g=>g,.inr ⟨_,rfl,rfl,.inl ⟨H0.out,hB.alloc _⟩⟩⟩
end Go.Proofs.YtgakcdcfblgagaaDoor.Sheet
