/-
  What the theorem of the last text needs of these: ShIntoS, ShItemS, ShIndexM. Conditions: as each theorem states.
-/
import Derived.Test.YtgakcdcfblgagaaDoorJoA1
import Derived.Test.YtgakcdcfblgagaaDoorJoA10
import Derived.Test.YtgakcdcfblgagaaDoorJoA13
import Derived.Test.YtgakcdcfblgagaaDoorJoA15
import Derived.Test.YtgakcdcfblgagaaDoorJoA16
import Derived.Test.YtgakcdcfblgagaaDoorJoA17
import Derived.Test.YtgakcdcfblgagaaDoorJoA18
import Derived.Test.YtgakcdcfblgagaaDoorJoA19
set_option maxRecDepth 100000
set_option maxHeartbeats 25600000
namespace Go.Proofs.YtgakcdcfblgagaaDoor.Sheet
open Go.RowKit Num Ident Semver Fr
open KR (KRow AtV)
open Model (PDep PRel PPack MDep MVer MRel MPack MPin DepOk VerOk RelOk PackOk PinOk DRow RRow PRow)

theorem intoS_any (lb b o n c ob tb B m F:Nat) (q:Option (Nat × Nat)) (v:Value) (xs:List MPin) (Is:MPin→Prop) (g1 g2:Nat) (l1 l2:Array Value) (w:World) (hob:AtV w ob [.func (.func g1) #[] l1]) (htb:AtV w tb [.func (.func g2) #[] l2])
  (e1:∀ args w,(callFunc g1 args).run Tryd.prog w=.ok (.enter g1 args) w) (e2:∀ args w,(callFunc g2 args).run Tryd.prog w=.ok (.enter g2 args) w)
  (hown:∀ W,Below w.heap.size w W→Calls Tryd.prog g1 l1 W fun e w'=>e=.returned (.pointer (q.map fun a=>⟨a.1,a.2,none⟩))∧Below W.heap.size W w')
  (htell:q≠none→∀ W,Below w.heap.size w W→Calls Tryd.prog g2 (#[.pointer (some ⟨lb,0,none⟩)] ++ l2) W fun e w'=>∃ x:MPin,e=.returned (.tuple #[x.agg,.int .i64 F])∧(F=0→Is x∧PinOk w' (fun g=>W.heap.size≤g∧g<w'.heap.size) x)∧But (fun g=>g=lb) W w'∧LnE w' lb b o n c)
  (hslot:∀ a,q=some a→Slot MPin.vals 6 60 w B a.1 a.2 v m xs∧a.1<lb∧∀ g,v.ownBlock=some g→g<lb) (hm:m≤100000000) (hln:LnE w lb b o n c) :
  Calls Tryd.prog 47 #[.pointer (some ⟨lb,0,none⟩),.pointer (some ⟨ob,0,none⟩),.pointer (some ⟨tb,0,none⟩)] w fun e w'=>LnE w' lb b o n c∧((q=none∧e=.returned (.int .i64 13)∧But (fun g=>g=lb) w w')∨∃ a,q=some a∧e=.returned (.int .i64 F)∧((F≠0∧But (fun g=>g=lb) w w')∨(F=0∧Kept MPin.vals 6 60 PinOk Is w lb B a.1 a.2 v m xs w'))):=by
 have HO:=Lib.hid hown
 have HT:=Lib.hid htell
 have HSL:=Lib.hid hslot
 have HOB:=Lib.hid hob
 have HTB:=Lib.hid htb
 have HLN:=Lib.hid hln
 have c0:=hob.at_ 0 _ rfl
 have hol:=hob.lt
 clear hown htell hslot hob htb hln
 cases q with
 | none =>
  go_enter Tryd.func47,Tryd.ntmps47
  go_wp2_with (go_at_fn g1; refine (HO.out w (Below.refl _ _)).mono ?_; rintro e w1 ⟨rfl,hb⟩)
  go_ret
  exact ⟨HLN.out.oth (But.of_same hb fun _=>False) fun g=>g,.inl ⟨by trivial,rfl,But.of_same hb _⟩⟩
 | some a =>
  obtain ⟨qb,qo⟩:=a
  obtain ⟨hsl,hq2,hv2⟩:=HSL.out _ rfl
  have HS0:=Lib.hid hsl
  have HV2:=Lib.hid hv2
  have HTL:=Lib.hid (HT.out (by simp))
  have d0:=HTB.out.at_ 0 _ rfl
  have tl:=HTB.out.lt
  clear hsl hv2 HSL HT
  have STEP:Hid (∀ W,Below w.heap.size w W→W.cell? ⟨tb,0,none⟩=some (.func (.func g2) #[] l2)):=fun W hB=>(hB.cell (p:=⟨tb,0,none⟩) tl).trans d0
  by_cases h0:F=0
  ·have hFb:((F:Int) == 0)=true:=by rw [h0]; rfl
   have H0:=Lib.hid h0
   clear h0
   go_enter Tryd.func47,Tryd.ntmps47
   go_upto_region 6 with (first
    | (go_at_fn g1; refine (HO.out w (Below.refl _ _)).mono ?_; rintro e w1 ⟨rfl,hb1⟩; have e0:=STEP.out w1 hb1)
    | (go_at_fn g2; refine (HTL.out w1 hb1).mono ?_; rintro e w2 ⟨x,rfl,hx,hb2,hl2⟩; unfold MPin.agg; have HX:=Lib.hid hx; have HB1:=Lib.hid hb1; have HB2:=Lib.hid hb2; have HL2:=Lib.hid hl2; clear hx hb1 hb2 hl2 e0))
   have HA3:Hid (Below w2.heap.size w2 (w2.alloc (.cells #[.string (Ident.mk x.name),x.ver.v.a,x.ver.v.b,x.ver.v.c,.slice x.ver.A x.ver.v.pre.length x.ver.c,.slice x.ver.B x.ver.v.build.length x.ver.d] 60))):=(Below.refl _ _).alloc (Nat.le_refl _) _
   have HD3:Hid (AtV (w2.alloc (.cells #[.string (Ident.mk x.name),x.ver.v.a,x.ver.v.b,x.ver.v.c,.slice x.ver.A x.ver.v.pre.length x.ver.c,.slice x.ver.B x.ver.v.build.length x.ver.d] 60)) w2.heap.size [.string (Ident.mk x.name),.int .u64 x.ver.v.a,.int .u64 x.ver.v.b,.int .u64 x.ver.v.c,.slice x.ver.A x.ver.v.pre.length x.ver.c,.slice x.ver.B x.ver.v.build.length x.ver.d]):=AtV.new w2 _ _
   obtain ⟨db,hdb⟩:∃ db,w2.heap.size=db:=⟨_,rfl⟩
   have HDB:=Lib.hid hdb
   rw [hdb] at HD3 ⊢
   clear hdb
   generalize w2.alloc (.cells #[.string (Ident.mk x.name),x.ver.v.a,x.ver.v.b,x.ver.v.c,.slice x.ver.A x.ver.v.pre.length x.ver.c,.slice x.ver.B x.ver.v.build.length x.ver.d] 60)=w3 at HA3 HD3 ⊢
   have HB3:Hid (But (fun g=>g=lb) w w3):=((But.of_same HB1.out _).trans HB2.out fun i e=>.inl e).trans (But.of_same HA3.out fun _=>False) fun i g=>g.elim
   have HBd:Hid (But (fun g=>g=lb) w w3.drew):=HB3.out.drew
   have HDd:Hid (AtV w3.drew db [.string (Ident.mk x.name),.int .u64 x.ver.v.a,.int .u64 x.ver.v.b,.int .u64 x.ver.v.c,.slice x.ver.A x.ver.v.pre.length x.ver.c,.slice x.ver.B x.ver.v.build.length x.ver.d]):=HD3.out.kept (Below.refl _ _).drew HD3.out.lt
   have HLd:Hid (LnE w3.drew lb b o n c):=(HL2.out.oth (But.of_same HA3.out fun _=>False) fun g=>g).oth (But.of_same (Below.refl _ _).drew fun _=>False) fun g=>g
   have HXd:Hid (Is x∧PinOk w3.drew (fun g=>w1.heap.size≤g∧g<w2.heap.size) x):=⟨(HX.out H0.out).1,((HX.out H0.out).2.keep (Range.KeepS.of_below HA3.out)).keep (Range.KeepS.of_below (Below.refl _ _).drew)⟩
   have HZ:Hid (w.heap.size≤w1.heap.size∧w2.heap.size≤w3.drew.heap.size):=⟨HB1.out.size,HA3.out.size⟩
   refine wp_region_held_drew (S:=fun _=>True) (by kernel_rfl) trivial (fun _=>?_)
   generalize w3.drew=wd at HBd HDd HLd HXd HZ ⊢
   have HSd:=Lib.hid (HS0.out.oth HBd.out (Nat.ne_of_lt hq2) fun g e=>Nat.ne_of_lt (HV2.out g e))
   have HA5:Hid (Below wd.heap.size wd (wd.alloc (.cells #[.string (Ident.mk x.name),x.ver.v.a,x.ver.v.b,x.ver.v.c,.slice x.ver.A x.ver.v.pre.length x.ver.c,.slice x.ver.B x.ver.v.build.length x.ver.d] 60))):=(Below.refl _ _).alloc (Nat.le_refl _) _
   have HN5:Hid (∀ j u,(MPin.vals x)[j]?=some u→(wd.alloc (.cells #[.string (Ident.mk x.name),x.ver.v.a,x.ver.v.b,x.ver.v.c,.slice x.ver.A x.ver.v.pre.length x.ver.c,.slice x.ver.B x.ver.v.build.length x.ver.d] 60)).cell? ((⟨wd.heap.size,0,none⟩:Addr).add j)=some u):=news_new wd (MPin.vals x) _
   have HS5:=Lib.hid (HSd.out.oth (But.of_same HA5.out fun _=>False) (fun g=>g) fun _ _ g=>g)
   obtain ⟨v',wa,hrun,hown,hgr,hat⟩:=run_append_at Tryd.underlying29 pinInfo rfl pinlen (by omega) pin_one _ 29 B v m xs HS5.out.own ⟨wd.heap.size,0,none⟩ 1 x HN5.out (by unfold maxLen; omega) (by omega) HS5.out.base
   obtain ⟨A',c',rfl⟩:=slice_of hown
   have cq:=HSd.out.cell
   have fq:=HSd.out.fr
   have hqn:v.ownBlock≠some qb:=fun e=>HSd.out.ne qb e rfl
   have ca:wa.cell? ⟨qb,qo,none⟩=some v:=((But.of_grown (T:=fun k=>v.ownBlock=some k) hgr fun _ e=>e).cell HS5.out.lt hqn).trans HS5.out.cell
   have fa:wa.frozen? ⟨qb,qo,none⟩=false:=((But.of_grown (T:=fun k=>v.ownBlock=some k) hgr fun _ e=>e).frozen HS5.out.lt hqn).trans HS5.out.fr
   have hlo:v.ownBlock≠some lb:=fun e=>by have:=HV2.out lb e; omega
   have HLF:Hid (LnE (wa.setCell ⟨qb,qo,none⟩ (.slice A' (m+1) c')) lb b o n c):=((HLd.out.oth (But.of_same HA5.out fun _=>False) fun g=>g).oth (But.of_grown (T:=fun k=>v.ownBlock=some k) hgr fun _ e=>e) hlo).oth (but_one wa qb qo (.slice A' (m+1) c')) (by omega)
   have HKP:Hid (Kept MPin.vals 6 60 PinOk Is w lb B qb qo v m xs (wa.setCell ⟨qb,qo,none⟩ (.slice A' (m+1) c'))):=⟨x,.slice A' (m+1) c',_,wa,HXd.out.1,pin_mono (HXd.out.2.keep (Range.KeepS.of_below HA5.out)) fun g hg _=>⟨Nat.le_trans HZ.out.1 hg.1,Nat.lt_of_lt_of_le hg.2 (Nat.le_trans HZ.out.2 HA5.out.size)⟩,HBd.out.trans (But.of_same HA5.out fun _=>False) (fun i g=>g.elim),hgr,hown,hat,rfl⟩
   clear hown hgr hat
   have d0:=HDd.out.at_ 0 _ rfl
   have g0:=((But.of_same HA5.out fun _=>False).cell HDd.out.lt (fun g=>g)).trans d0
   have d1:=HDd.out.at_ 1 _ rfl
   have g1:=((But.of_same HA5.out fun _=>False).cell HDd.out.lt (fun g=>g)).trans d1
   have d2:=HDd.out.at_ 2 _ rfl
   have g2:=((But.of_same HA5.out fun _=>False).cell HDd.out.lt (fun g=>g)).trans d2
   have d3:=HDd.out.at_ 3 _ rfl
   have g3:=((But.of_same HA5.out fun _=>False).cell HDd.out.lt (fun g=>g)).trans d3
   have d4:=HDd.out.at_ 4 _ rfl
   have g4:=((But.of_same HA5.out fun _=>False).cell HDd.out.lt (fun g=>g)).trans d4
   have d5:=HDd.out.at_ 5 _ rfl
   have g5:=((But.of_same HA5.out fun _=>False).cell HDd.out.lt (fun g=>g)).trans d5
   refine tk 0 rfl (.pointer (some ⟨qb,qo,none⟩)) ?_
   refine tk 1 rfl (.pointer (some ⟨qb,qo,none⟩)) ?_
   refine tk 2 rfl (.pointer (some ⟨qb,qo,none⟩)) ?_
   have cq5:=HS5.out.cell
   refine wpAnyH_ready (rs:=[3,4]) (by kernel_rfl) (by simp) ?_
   refine AllReadyH.cons (nth_ops (i:=3) rfl) (fun K hK=>?_) (AllReadyH.cons (nth_ops (i:=4) rfl) (fun K hK=>?_) AllReadyH.nil)
   ·go_simp
    refine hK.out _ _ trivial (fun _=>?_)
    clear hK K
    try simp only [Act.put,p1,p2,p3]
    refine cl 4 rfl fun K hK=>?_
    go_simp
    refine hK.out _ _ trivial (fun _=>?_)
    clear hK K
    try simp only [Act.put,p1,p2,p3]
    refine cl 5 rfl fun K hK=>?_
    go_simp
    refine hK.out _ _ trivial (fun _=>?_)
    clear hK K
    try simp only [Act.put,p1,p2,p3]
    refine cl 6 rfl fun K hK=>?_
    refine KR.region_append (by rfl) _ _ rfl rfl rfl hrun ?_
    refine hK.out _ _ trivial (fun _=>?_)
    clear hK K
    try simp only [Act.put,p1,p2,p3]
    refine tk 7 rfl (.pointer (some ⟨qb,qo,none⟩)) ?_
    refine cl 8 rfl fun K hK=>?_
    go_simp
    refine hK.out _ _ trivial (fun _=>?_)
    clear hK K
    try simp only [Act.put,p1,p2,p3]
    refine wpAnyH_done (by kernel_rfl) ?_ _
    clear cq fq ca fa hrun
    go_wp2
    go_ret
    exact ⟨HLF.out,.inr ⟨_,rfl,by first | rfl | (rw [H0.out]; rfl),.inr ⟨H0.out,HKP.out⟩⟩⟩
   ·go_simp
    refine hK.out _ _ trivial (fun _=>?_)
    clear hK K
    try simp only [Act.put,p1,p2,p3]
    refine wpAnyH_ready (rs:=[3,5]) (by kernel_rfl) (by simp) ?_
    refine AllReadyH.cons (nth_ops (i:=3) rfl) (fun K hK=>?_) (AllReadyH.cons (nth_ops (i:=5) rfl) (fun K hK=>?_) AllReadyH.nil)
    ·go_simp
     refine hK.out _ _ trivial (fun _=>?_)
     clear hK K
     try simp only [Act.put,p1,p2,p3]
     refine cl 5 rfl fun K hK=>?_
     go_simp
     refine hK.out _ _ trivial (fun _=>?_)
     clear hK K
     try simp only [Act.put,p1,p2,p3]
     refine cl 6 rfl fun K hK=>?_
     refine KR.region_append (by rfl) _ _ rfl rfl rfl hrun ?_
     refine hK.out _ _ trivial (fun _=>?_)
     clear hK K
     try simp only [Act.put,p1,p2,p3]
     refine tk 7 rfl (.pointer (some ⟨qb,qo,none⟩)) ?_
     refine cl 8 rfl fun K hK=>?_
     go_simp
     refine hK.out _ _ trivial (fun _=>?_)
     clear hK K
     try simp only [Act.put,p1,p2,p3]
     refine wpAnyH_done (by kernel_rfl) ?_ _
     clear cq fq ca fa hrun
     go_wp2
     go_ret
     exact ⟨HLF.out,.inr ⟨_,rfl,by first | rfl | (rw [H0.out]; rfl),.inr ⟨H0.out,HKP.out⟩⟩⟩
    ·go_simp
     refine hK.out _ _ trivial (fun _=>?_)
     clear hK K
     try simp only [Act.put,p1,p2,p3]
     refine cl 3 rfl fun K hK=>?_
     go_simp
     refine hK.out _ _ trivial (fun _=>?_)
     clear hK K
     try simp only [Act.put,p1,p2,p3]
     refine cl 6 rfl fun K hK=>?_
     refine KR.region_append (by rfl) _ _ rfl rfl rfl hrun ?_
     refine hK.out _ _ trivial (fun _=>?_)
     clear hK K
     try simp only [Act.put,p1,p2,p3]
     refine tk 7 rfl (.pointer (some ⟨qb,qo,none⟩)) ?_
     refine cl 8 rfl fun K hK=>?_
     go_simp
     refine hK.out _ _ trivial (fun _=>?_)
     clear hK K
     try simp only [Act.put,p1,p2,p3]
     refine wpAnyH_done (by kernel_rfl) ?_ _
     clear cq fq ca fa hrun
     go_wp2
     go_ret
     exact ⟨HLF.out,.inr ⟨_,rfl,by first | rfl | (rw [H0.out]; rfl),.inr ⟨H0.out,HKP.out⟩⟩⟩
  ·have hFb:((F:Int) == 0)=false:=by rw [beq_eq_false_iff_ne]; omega
   have H0:=Lib.hid h0
   clear h0
   go_enter Tryd.func47,Tryd.ntmps47
   go_wp2_with (first
    | (go_at_fn g1; refine (HO.out w (Below.refl _ _)).mono ?_; rintro e w1 ⟨rfl,hb1⟩; have e0:=STEP.out w1 hb1)
    | (go_at_fn g2; refine (HTL.out w1 hb1).mono ?_; rintro e w2 ⟨x,rfl,hx,hb2,hl2⟩; unfold MPin.agg; have HX:=Lib.hid hx; have HB1:=Lib.hid hb1; have HB2:=Lib.hid hb2; have HL2:=Lib.hid hl2; clear hx hb1 hb2 hl2 e0))
   go_ret
   have hB:But (fun g=>g=lb) w w2:=(But.of_same HB1.out _).trans HB2.out fun i e=>.inl e
   exact ⟨HL2.out.oth (But.alloc (But.refl (fun _=>False) w2) _) fun g=>g,.inr ⟨_,rfl,rfl,.inl ⟨H0.out,hB.alloc _⟩⟩⟩
end Go.Proofs.YtgakcdcfblgagaaDoor.Sheet
namespace Go.Proofs.YtgakcdcfblgagaaDoor.Sheet
open Go.RowKit Num Ident Semver Fr
open KR (AtV)
open Range (Rng noRng RV KeepS LtB InS From FitV pread)
open Name (isName)
open Model (PDep PPin MDep MPin MVer DepOk PinOk VerOk)

theorem pin_read {l:List UInt8} {k:Nat} (hk:k≤l.length) (hkw:kindW (wordOf (l.drop k))=4) :
  (nameE l k≠0→(readL (l.drop k)).e=nameE l k)∧(nameE l k=0→(readL (l.drop k)).e=(if (l.drop (nextAt l k)).drop ((wordOf (l.drop (nextAt l k))).length+1)=[] then 5 else (vread ((l.drop (nextAt l k)).drop ((wordOf (l.drop (nextAt l k))).length+1))).1)∧((readL (l.drop k)).e=0→pinOf (readL (l.drop k))=⟨wordOf (l.drop (nextAt l k)),(vread ((l.drop (nextAt l k)).drop ((wordOf (l.drop (nextAt l k))).length+1))).2.2⟩)):=by
 have hr:=readL_pin (t:=l.drop k) (w:=wordOf (l.drop k)) (s:=l.drop (nextAt l k)) rfl (nextAt_drop l k).symm hkw
 have hen:=nextAt_end (l:=l) hk
 rw [← nextAt_drop l k] at hen
 unfold nameE
 rw [hr]
 generalize l.drop (nextAt l k)=s at hen ⊢
 by_cases h1:s=[]
 ·rw [if_pos h1,if_pos (hen.2 h1)]
  exact ⟨fun _=>rfl,fun h=>by cases h⟩
 ·rw [if_neg h1,if_neg (fun h=>h1 (hen.1 h))]
  cases h2:isName (wordOf s) with
  | false =>
   simp only [Bool.false_eq_true,if_false,if_true]
   exact ⟨fun _=>rfl,fun h=>by cases h⟩
  | true =>
   simp only [Bool.true_eq_false,if_false,if_true]
   generalize s.drop ((wordOf s).length+1)=q
   by_cases h3:q=[]
   ·rw [if_pos h3,if_pos h3]
    exact ⟨fun h=>absurd rfl h,fun _=>⟨rfl,fun h=>by cases h⟩⟩
   ·rw [if_neg h3,if_neg h3]
    refine ⟨fun h=>absurd rfl h,fun _=>⟨?_,fun h=>?_⟩⟩
    ·unfold readV
     split
     ·rfl
     ·rename_i h4
      show 0=_
      omega
    ·unfold readV at h ⊢
     split at h
     ·rename_i h4; exact absurd h h4
     ·rename_i h4
      rw [if_neg h4]; rfl
theorem short_wordV {l:List UInt8} {n:Nat} (hl:l.length=n) (hn:n≤16777216) (k:Nat):(wordOf (l.drop k)).length≤maxLen:=by
 have:=word_le (l.drop k)
 rw [List.length_drop] at this
 unfold maxLen; omega

theorem pin_any (lb b o n c:Nat) (l:List UInt8) (k:Nat) (w:World) (h:Ln w lb b o n c l k) (hn:n≤16777216) (hkw:kindW (wordOf (l.drop k))=4) :
  Calls Tryd.prog 14 #[.pointer (some ⟨lb,0,none⟩)] w fun e w'=>∃ (x:MPin) (f:Nat),e=.returned (.tuple #[x.agg,.int .i64 f])∧f=(readL (l.drop k)).e∧(f=0→x.p=pinOf (readL (l.drop k))∧PinOk w' (From w.heap.size) x)∧But (fun g=>g=lb) w w'∧LnE w' lb b o n c:=by
 have hln:l.length=n:=h.row.1
 have H0:Hid (Below w.heap.size w (w.alloc (.cells #[.string ⟨#[]⟩,.int .u64 0,.int .u64 0,.int .u64 0,.slice none 0 0,.slice none 0 0] 60))):=(Below.refl _ _).alloc (Nat.le_refl _) _
 have hl0:=h.kept H0.out
 have HR0:Hid (AtV (w.alloc (.cells #[.string ⟨#[]⟩,.int .u64 0,.int .u64 0,.int .u64 0,.slice none 0 0,.slice none 0 0] 60)) w.heap.size [.string ⟨#[]⟩,.int .u64 0,.int .u64 0,.int .u64 0,.slice none 0 0,.slice none 0 0]):=AtV.new w _ _
 have hcon:=name_any lb b o n c l k _ hl0
 have HPL:=Lib.hid (pin_read (l:=l) (k:=k) h.kn' hkw)
 have hlt:=h.at_.lt
 have hbl:=h.hb
 have hz0:(w.alloc (.cells #[.string ⟨#[]⟩,.int .u64 0,.int .u64 0,.int .u64 0,.slice none 0 0,.slice none 0 0] 60)).heap.size=w.heap.size+1:=by simp
 have HLL:Hid (∀ W',But (fun g=>g=lb) (w.alloc (.cells #[.string ⟨#[]⟩,.int .u64 0,.int .u64 0,.int .u64 0,.slice none 0 0,.slice none 0 0] 60)) W'→But (fun g=>g=lb) w W'):=fun W' q=>(But.of_same H0.out _).trans q fun i e=>.inl e
 clear hl0 h hkw
 obtain ⟨rb,hrb⟩:∃ rb,w.heap.size=rb:=⟨_,rfl⟩
 have HRB:=Lib.hid hrb
 have hne1:lb≠rb:=by omega
 have hne2:b≠rb:=by omega
 obtain ⟨k1,hk1⟩:∃ k1,nextAt l k=k1:=⟨_,rfl⟩
 obtain ⟨E,hE⟩:∃ E,nameE l k=E:=⟨_,rfl⟩
 obtain ⟨G,hG⟩:∃ G,(readL (l.drop k)).e=G:=⟨_,rfl⟩
 obtain ⟨y,hy⟩:∃ y,pinOf (readL (l.drop k))=y:=⟨_,rfl⟩
 rw [hE,hk1] at hcon
 rw [hE,hk1,hG,hy] at HPL
 rw [hG,hy]
 clear hE hk1 hG hy
 go_enter Tryd.func14,Tryd.ntmps14
 go_wp2_with fail
 generalize w.alloc (.cells #[.string ⟨#[]⟩,.int .u64 0,.int .u64 0,.int .u64 0,.slice none 0 0,.slice none 0 0] 60)=w0 at H0 HR0 HLL hcon hz0 ⊢
 rw [hrb] at HR0 hz0
 clear hrb
 refine hcon.mono ?_
 rintro e w1 ⟨nm,rfl,hnm,hb,hl⟩
 have HNM:=Lib.hid hnm
 have HB:=Lib.hid hb
 have HL:=Lib.hid hl
 have HR1:=Lib.hid (atv_oth HR0.out hb (fun e=>hne1 e.symm))
 clear hb hl hcon hnm
 have r0:=HR1.out.at_ 0 _ rfl
 have f0:=HR1.out.fr 0
 have r1:=HR1.out.at_ 1 _ rfl
 have f1:=HR1.out.fr 1
 have r2:=HR1.out.at_ 2 _ rfl
 have f2:=HR1.out.fr 2
 have r3:=HR1.out.at_ 3 _ rfl
 have f3:=HR1.out.fr 3
 have r4:=HR1.out.at_ 4 _ rfl
 have f4:=HR1.out.fr 4
 have r5:=HR1.out.at_ 5 _ rfl
 have f5:=HR1.out.fr 5
 by_cases hE0:E=0
 ·have hEb:((E:Int) != 0)=false:=by rw [hE0]; rfl
  have HE0:=Lib.hid hE0
  have H2:Hid (But (fun g=>g=rb) w1 (w1.setCell ⟨rb,0,none⟩ (.string (Ident.mk nm)))):=(But.refl _ _).set rb 0 (.string (Ident.mk nm)) (.inl rfl)
  have HR2:Hid (AtV (w1.setCell ⟨rb,0,none⟩ (.string (Ident.mk nm))) rb [.string (Ident.mk nm),.int .u64 0,.int .u64 0,.int .u64 0,.slice none 0 0,.slice none 0 0]):=atv_set HR1.out 0 _ (by simp)
  clear hE0
  go_wp2_with fail
  clear r0 f0 r1 f1 r2 f2 r3 f3 r4 f4 r5 f5
  generalize (w1.setCell ⟨rb,0,none⟩ (.string (Ident.mk nm)))=w2 at H2 HR2 ⊢
  have HL2:=Lib.hid (HL.out.oth H2.out hne1 hne2)
  refine (restV_any lb b o n c l k1 w2 HL2.out hn).mono ?_
  rintro e w3 ⟨x,F,rfl,hF,hx,hb,hl⟩
  have HX:=Lib.hid hx
  have HF:=Lib.hid hF
  have HLE:=Lib.hid hl
  have HB3:=Lib.hid hb
  have HR3:=Lib.hid (atv_oth HR2.out hb (fun e=>hne1 e.symm))
  clear hb hl hx hF
  unfold Model.MVer.agg
  have r0:=HR3.out.at_ 0 _ rfl
  have f0:=HR3.out.fr 0
  have r1:=HR3.out.at_ 1 _ rfl
  have f1:=HR3.out.fr 1
  have r2:=HR3.out.at_ 2 _ rfl
  have f2:=HR3.out.fr 2
  have r3:=HR3.out.at_ 3 _ rfl
  have f3:=HR3.out.fr 3
  have r4:=HR3.out.at_ 4 _ rfl
  have f4:=HR3.out.fr 4
  have r5:=HR3.out.at_ 5 _ rfl
  have f5:=HR3.out.fr 5
  have hFG:F=G:=by rw [HF.out,← (HPL.out.2 HE0.out).1]
  have HB4:Hid (But (fun g=>g=lb) w w3):=((HLL.out w1 HB.out).trans H2.out fun i e=>.inr (by rw [e]; exact Nat.le_of_eq HRB.out)).trans HB3.out fun i e=>.inl e
  have hz2:rb<w2.heap.size:=HR2.out.lt
  have hl2:lb<w2.heap.size:=HL2.out.at_.lt
  have hz3:=HB3.out.size
  subst hFG
  go_wp2
  have HV5:Hid (AtV (((((((((((w3.setCell ⟨rb,1,none⟩ x.v.a).setCell ⟨rb,2,none⟩ x.v.b).setCell ⟨rb,3,none⟩ x.v.c).setCell ⟨rb,4,none⟩ (.slice x.A x.v.pre.length x.c)).setCell ⟨rb,5,none⟩ (.slice x.B x.v.build.length x.d)).setCell ⟨rb,0,none⟩ (.string (Ident.mk nm))).setCell ⟨rb,1,none⟩ x.v.a).setCell ⟨rb,2,none⟩ x.v.b).setCell ⟨rb,3,none⟩ x.v.c).setCell ⟨rb,4,none⟩ (.slice x.A x.v.pre.length x.c)).setCell ⟨rb,5,none⟩ (.slice x.B x.v.build.length x.d)) rb [.string (Ident.mk nm),.int .u64 x.v.a,.int .u64 x.v.b,.int .u64 x.v.c,.slice x.A x.v.pre.length x.c,.slice x.B x.v.build.length x.d]):=(atv_set (atv_set (atv_set (atv_set (atv_set (atv_set (atv_set (atv_set (atv_set (atv_set (atv_set HR3.out 1 x.v.a (by simp)) 2 x.v.b (by simp)) 3 x.v.c (by simp)) 4 (.slice x.A x.v.pre.length x.c) (by simp)) 5 (.slice x.B x.v.build.length x.d) (by simp)) 0 (.string (Ident.mk nm)) (by simp)) 1 x.v.a (by simp)) 2 x.v.b (by simp)) 3 x.v.c (by simp)) 4 (.slice x.A x.v.pre.length x.c) (by simp)) 5 (.slice x.B x.v.build.length x.d) (by simp))
  have HB5:Hid (But (fun g=>g=lb) w (((((((((((w3.setCell ⟨rb,1,none⟩ x.v.a).setCell ⟨rb,2,none⟩ x.v.b).setCell ⟨rb,3,none⟩ x.v.c).setCell ⟨rb,4,none⟩ (.slice x.A x.v.pre.length x.c)).setCell ⟨rb,5,none⟩ (.slice x.B x.v.build.length x.d)).setCell ⟨rb,0,none⟩ (.string (Ident.mk nm))).setCell ⟨rb,1,none⟩ x.v.a).setCell ⟨rb,2,none⟩ x.v.b).setCell ⟨rb,3,none⟩ x.v.c).setCell ⟨rb,4,none⟩ (.slice x.A x.v.pre.length x.c)).setCell ⟨rb,5,none⟩ (.slice x.B x.v.build.length x.d))):=(((((((((((HB4.out.set rb 1 x.v.a (.inr (Nat.le_of_eq HRB.out))).set rb 2 x.v.b (.inr (Nat.le_of_eq HRB.out))).set rb 3 x.v.c (.inr (Nat.le_of_eq HRB.out))).set rb 4 (.slice x.A x.v.pre.length x.c) (.inr (Nat.le_of_eq HRB.out))).set rb 5 (.slice x.B x.v.build.length x.d) (.inr (Nat.le_of_eq HRB.out))).set rb 0 (.string (Ident.mk nm)) (.inr (Nat.le_of_eq HRB.out))).set rb 1 x.v.a (.inr (Nat.le_of_eq HRB.out))).set rb 2 x.v.b (.inr (Nat.le_of_eq HRB.out))).set rb 3 x.v.c (.inr (Nat.le_of_eq HRB.out))).set rb 4 (.slice x.A x.v.pre.length x.c) (.inr (Nat.le_of_eq HRB.out))).set rb 5 (.slice x.B x.v.build.length x.d) (.inr (Nat.le_of_eq HRB.out)))
  have HE5:Hid (LnE (((((((((((w3.setCell ⟨rb,1,none⟩ x.v.a).setCell ⟨rb,2,none⟩ x.v.b).setCell ⟨rb,3,none⟩ x.v.c).setCell ⟨rb,4,none⟩ (.slice x.A x.v.pre.length x.c)).setCell ⟨rb,5,none⟩ (.slice x.B x.v.build.length x.d)).setCell ⟨rb,0,none⟩ (.string (Ident.mk nm))).setCell ⟨rb,1,none⟩ x.v.a).setCell ⟨rb,2,none⟩ x.v.b).setCell ⟨rb,3,none⟩ x.v.c).setCell ⟨rb,4,none⟩ (.slice x.A x.v.pre.length x.c)).setCell ⟨rb,5,none⟩ (.slice x.B x.v.build.length x.d)) lb b o n c):=HLE.out.oth (T:=fun g=>g=rb) (((((((((((((But.refl (fun g=>g=rb) w3).set rb 1 x.v.a (.inl rfl)).set rb 2 x.v.b (.inl rfl)).set rb 3 x.v.c (.inl rfl)).set rb 4 (.slice x.A x.v.pre.length x.c) (.inl rfl)).set rb 5 (.slice x.B x.v.build.length x.d) (.inl rfl)).set rb 0 (.string (Ident.mk nm)) (.inl rfl)).set rb 1 x.v.a (.inl rfl)).set rb 2 x.v.b (.inl rfl)).set rb 3 x.v.c (.inl rfl)).set rb 4 (.slice x.A x.v.pre.length x.c) (.inl rfl)).set rb 5 (.slice x.B x.v.build.length x.d) (.inl rfl))) hne1
  have HK5:Hid (But (fun g=>g=rb) w3 (((((((((((w3.setCell ⟨rb,1,none⟩ x.v.a).setCell ⟨rb,2,none⟩ x.v.b).setCell ⟨rb,3,none⟩ x.v.c).setCell ⟨rb,4,none⟩ (.slice x.A x.v.pre.length x.c)).setCell ⟨rb,5,none⟩ (.slice x.B x.v.build.length x.d)).setCell ⟨rb,0,none⟩ (.string (Ident.mk nm))).setCell ⟨rb,1,none⟩ x.v.a).setCell ⟨rb,2,none⟩ x.v.b).setCell ⟨rb,3,none⟩ x.v.c).setCell ⟨rb,4,none⟩ (.slice x.A x.v.pre.length x.c)).setCell ⟨rb,5,none⟩ (.slice x.B x.v.build.length x.d))):=((((((((((((But.refl (fun g=>g=rb) w3).set rb 1 x.v.a (.inl rfl)).set rb 2 x.v.b (.inl rfl)).set rb 3 x.v.c (.inl rfl)).set rb 4 (.slice x.A x.v.pre.length x.c) (.inl rfl)).set rb 5 (.slice x.B x.v.build.length x.d) (.inl rfl)).set rb 0 (.string (Ident.mk nm)) (.inl rfl)).set rb 1 x.v.a (.inl rfl)).set rb 2 x.v.b (.inl rfl)).set rb 3 x.v.c (.inl rfl)).set rb 4 (.slice x.A x.v.pre.length x.c) (.inl rfl)).set rb 5 (.slice x.B x.v.build.length x.d) (.inl rfl))
  generalize (((((((((((w3.setCell ⟨rb,1,none⟩ x.v.a).setCell ⟨rb,2,none⟩ x.v.b).setCell ⟨rb,3,none⟩ x.v.c).setCell ⟨rb,4,none⟩ (.slice x.A x.v.pre.length x.c)).setCell ⟨rb,5,none⟩ (.slice x.B x.v.build.length x.d)).setCell ⟨rb,0,none⟩ (.string (Ident.mk nm))).setCell ⟨rb,1,none⟩ x.v.a).setCell ⟨rb,2,none⟩ x.v.b).setCell ⟨rb,3,none⟩ x.v.c).setCell ⟨rb,4,none⟩ (.slice x.A x.v.pre.length x.c)).setCell ⟨rb,5,none⟩ (.slice x.B x.v.build.length x.d))=w5 at HV5 HB5 HE5 HK5 ⊢
  clear r0 f0 r1 f1 r2 f2 r3 f3 r4 f4 r5 f5
  have r0:=HV5.out.at_ 0 _ rfl
  have f0:=HV5.out.fr 0
  have r1:=HV5.out.at_ 1 _ rfl
  have f1:=HV5.out.fr 1
  have r2:=HV5.out.at_ 2 _ rfl
  have f2:=HV5.out.fr 2
  have r3:=HV5.out.at_ 3 _ rfl
  have f3:=HV5.out.fr 3
  have r4:=HV5.out.at_ 4 _ rfl
  have f4:=HV5.out.fr 4
  have r5:=HV5.out.at_ 5 _ rfl
  have f5:=HV5.out.fr 5
  exact bodyPost_ret (v:=.tuple #[.agg #[.string (Ident.mk nm),x.v.a,x.v.b,x.v.c,.slice x.A x.v.pre.length x.c,.slice x.B x.v.build.length x.d],.int .i64 F]) (by simp [results,Tryd.results14,go_sem,r0,r1,r2,r3,r4,r5]) rfl ⟨⟨nm,x⟩,F,rfl,rfl,fun h0=>⟨by rw [(HPL.out.2 HE0.out).2 h0,HNM.out HE0.out]; show (⟨_,x.v⟩:PPin)=_; rw [(HX.out h0).1],(by rw [HNM.out HE0.out]; exact short_wordV hln hn k1),((HX.out h0).2.keep (keep_oth (T:=fun g=>g=rb∨g=lb) (S:=From w2.heap.size) (HK5.out.mono fun g e=>.inl e) (fun g hg d=>by have hg:w2.heap.size≤g:=hg; rcases d with d | d <;> omega))).mono (fun g hg _=>by have hg:w2.heap.size≤g:=hg; have hg2:w.heap.size≤w2.heap.size:=(by have:=HRB.out; omega); exact Nat.le_trans hg2 hg)⟩,HB5.out,HE5.out⟩
 ·have hEb:((E:Int) != 0)=true:=by simp [hE0]
  have hGE:G=E:=HPL.out.1 hE0
  have HB4:Hid (But (fun g=>g=lb) w w1):=HLL.out w1 HB.out
  go_wp2
  have HV5:Hid (AtV (((((((w1.setCell ⟨rb,0,none⟩ (.string (Ident.mk nm))).setCell ⟨rb,0,none⟩ (.string (Ident.mk nm))).setCell ⟨rb,1,none⟩ (.int .u64 0)).setCell ⟨rb,2,none⟩ (.int .u64 0)).setCell ⟨rb,3,none⟩ (.int .u64 0)).setCell ⟨rb,4,none⟩ (.slice none 0 0)).setCell ⟨rb,5,none⟩ (.slice none 0 0)) rb [.string (Ident.mk nm),.int .u64 0,.int .u64 0,.int .u64 0,.slice none 0 0,.slice none 0 0]):=(atv_set (atv_set (atv_set (atv_set (atv_set (atv_set (atv_set HR1.out 0 (.string (Ident.mk nm)) (by simp)) 0 (.string (Ident.mk nm)) (by simp)) 1 (.int .u64 0) (by simp)) 2 (.int .u64 0) (by simp)) 3 (.int .u64 0) (by simp)) 4 (.slice none 0 0) (by simp)) 5 (.slice none 0 0) (by simp))
  have HB5:Hid (But (fun g=>g=lb) w (((((((w1.setCell ⟨rb,0,none⟩ (.string (Ident.mk nm))).setCell ⟨rb,0,none⟩ (.string (Ident.mk nm))).setCell ⟨rb,1,none⟩ (.int .u64 0)).setCell ⟨rb,2,none⟩ (.int .u64 0)).setCell ⟨rb,3,none⟩ (.int .u64 0)).setCell ⟨rb,4,none⟩ (.slice none 0 0)).setCell ⟨rb,5,none⟩ (.slice none 0 0))):=(((((((HB4.out.set rb 0 (.string (Ident.mk nm)) (.inr (Nat.le_of_eq HRB.out))).set rb 0 (.string (Ident.mk nm)) (.inr (Nat.le_of_eq HRB.out))).set rb 1 (.int .u64 0) (.inr (Nat.le_of_eq HRB.out))).set rb 2 (.int .u64 0) (.inr (Nat.le_of_eq HRB.out))).set rb 3 (.int .u64 0) (.inr (Nat.le_of_eq HRB.out))).set rb 4 (.slice none 0 0) (.inr (Nat.le_of_eq HRB.out))).set rb 5 (.slice none 0 0) (.inr (Nat.le_of_eq HRB.out)))
  have HE5:Hid (LnE (((((((w1.setCell ⟨rb,0,none⟩ (.string (Ident.mk nm))).setCell ⟨rb,0,none⟩ (.string (Ident.mk nm))).setCell ⟨rb,1,none⟩ (.int .u64 0)).setCell ⟨rb,2,none⟩ (.int .u64 0)).setCell ⟨rb,3,none⟩ (.int .u64 0)).setCell ⟨rb,4,none⟩ (.slice none 0 0)).setCell ⟨rb,5,none⟩ (.slice none 0 0)) lb b o n c):=(LnE.of HL.out).oth (T:=fun g=>g=rb) (((((((((But.refl (fun g=>g=rb) w1).set rb 0 (.string (Ident.mk nm)) (.inl rfl)).set rb 0 (.string (Ident.mk nm)) (.inl rfl)).set rb 1 (.int .u64 0) (.inl rfl)).set rb 2 (.int .u64 0) (.inl rfl)).set rb 3 (.int .u64 0) (.inl rfl)).set rb 4 (.slice none 0 0) (.inl rfl)).set rb 5 (.slice none 0 0) (.inl rfl))) hne1
  generalize (((((((w1.setCell ⟨rb,0,none⟩ (.string (Ident.mk nm))).setCell ⟨rb,0,none⟩ (.string (Ident.mk nm))).setCell ⟨rb,1,none⟩ (.int .u64 0)).setCell ⟨rb,2,none⟩ (.int .u64 0)).setCell ⟨rb,3,none⟩ (.int .u64 0)).setCell ⟨rb,4,none⟩ (.slice none 0 0)).setCell ⟨rb,5,none⟩ (.slice none 0 0))=w5 at HV5 HB5 HE5 ⊢
  clear r0 f0 r1 f1 r2 f2 r3 f3 r4 f4 r5 f5
  have r0:=HV5.out.at_ 0 _ rfl
  have f0:=HV5.out.fr 0
  have r1:=HV5.out.at_ 1 _ rfl
  have f1:=HV5.out.fr 1
  have r2:=HV5.out.at_ 2 _ rfl
  have f2:=HV5.out.fr 2
  have r3:=HV5.out.at_ 3 _ rfl
  have f3:=HV5.out.fr 3
  have r4:=HV5.out.at_ 4 _ rfl
  have f4:=HV5.out.fr 4
  have r5:=HV5.out.at_ 5 _ rfl
  have f5:=HV5.out.fr 5
  exact bodyPost_ret (v:=.tuple #[.agg #[.string (Ident.mk nm),.int .u64 0,.int .u64 0,.int .u64 0,.slice none 0 0,.slice none 0 0],.int .i64 E]) (by simp [results,Tryd.results14,go_sem,r0,r1,r2,r3,r4,r5]) rfl ⟨⟨nm,default⟩,E,rfl,hGE.symm,(fun h=>absurd h hE0),HB5.out,HE5.out⟩
end Go.Proofs.YtgakcdcfblgagaaDoor.Sheet
namespace Go.Proofs.YtgakcdcfblgagaaDoor.Sheet
open Go.RowKit Num Ident Semver Fr
open KR (KRow AtV)
open Range (KeepS LtB From OpsTab)
open Model (PDep PRel PPack PPin MDep MVer MRel MPack MPin DepOk VerOk PinOk RelOk PackOk DRow SPRow RRow PRow)

abbrev ptrV (g:Nat):Value:=.pointer (some ⟨g,0,none⟩)
def fX (s:Nat):Words:=fun t =>
 if t=wBans then some (42,#[ptrV (s+12),ptrV (s+13)])
 else if t=wNeeds then some (42,#[ptrV (s+10),ptrV (s+11)])
 else if t=wYanked then some (55,#[ptrV (s+8),ptrV (s+9)])
 else if t=wVersion then some (55,#[ptrV (s+5),ptrV (s+6)])
 else if t=wPackage then some (53,#[ptrV (s+2),ptrV (s+3)])
 else none
structure StatX (s xb:Nat) (W:World):Prop where
 words:WordsAt W (s+1) (fX s)
 cx:AtV W s [ptrV xb]
 o1:AtV W (s+2) [.func (.func 30) #[] #[ptrV s]]
 t1:AtV W (s+3) [.func (.func 39) #[] #[]]
 y2:AtV W (s+4) [.bool false]
 o2:AtV W (s+5) [.func (.func 31) #[] #[ptrV s]]
 t2:AtV W (s+6) [.func (.func 56) #[] #[ptrV (s+4)]]
 y3:AtV W (s+7) [.bool true]
 o3:AtV W (s+8) [.func (.func 31) #[] #[ptrV s]]
 t3:AtV W (s+9) [.func (.func 56) #[] #[ptrV (s+7)]]
 o4:AtV W (s+10) [.func (.func 33) #[] #[ptrV s]]
 t4:AtV W (s+11) [.func (.func 11) #[] #[]]
 o5:AtV W (s+12) [.func (.func 36) #[] #[ptrV s]]
 t5:AtV W (s+13) [.func (.func 11) #[] #[]]
 tab:OpsTab W
theorem StatX.but {T:Nat→Prop} {s xb:Nat} {W W':World} (h:StatX s xb W) (k:But T W W') (hT:∀ g,s≤g→g<s+14→¬ T g) (ho:¬ T 1):StatX s xb W' :=
 ⟨h.words.but k (hT _ (by omega) (by omega)),atv_oth h.cx k (hT _ (by omega) (by omega)),atv_oth h.o1 k (hT _ (by omega) (by omega)),atv_oth h.t1 k (hT _ (by omega) (by omega)),atv_oth h.y2 k (hT _ (by omega) (by omega)),atv_oth h.o2 k (hT _ (by omega) (by omega)),atv_oth h.t2 k (hT _ (by omega) (by omega)),atv_oth h.y3 k (hT _ (by omega) (by omega)),atv_oth h.o3 k (hT _ (by omega) (by omega)),atv_oth h.t3 k (hT _ (by omega) (by omega)),atv_oth h.o4 k (hT _ (by omega) (by omega)),atv_oth h.t4 k (hT _ (by omega) (by omega)),atv_oth h.o5 k (hT _ (by omega) (by omega)),atv_oth h.t5 k (hT _ (by omega) (by omega)),opsTab_oth h.tab k ho⟩
structure HoldX (s xb B:Nat) (st:List PPack) (M:Nat) (W:World) (S:Nat→Prop) (A:Option Addr) (c:Nat) (ps:List MPack) (o:Option MPack) (rs:List MRel) (q:Option MRel):Prop where
 stat:StatX s xb W
 tree:Tree W B M xb S A c ps o rs q
 is:(ps ++ o.toList).map MPack.p=st
 nr:q=none→rs=[]
 xs:xb<s
 sB:s+14≤B
 ox:1<xb
 bM:B≤M
section
variable {s xb B:Nat} {st:List PPack} {M:Nat} {W W':World} {S:Nat→Prop} {A:Option Addr} {c:Nat} {ps:List MPack} {o:Option MPack} {rs:List MRel} {q:Option MRel}
theorem HoldX.but {T:Nat→Prop} (h:HoldX s xb B st M W S A c ps o rs q) (k:But T W W') (hT:∀ g,g<M→¬ T g):HoldX s xb B st M W' S A c ps o rs q:=by
 have h1:=h.xs; have h2:=h.sB; have h3:=h.ox; have h4:=h.bM
 exact ⟨h.stat.but k (fun g _ hg=>hT g (by omega)) (hT _ (by omega)),h.tree.but k (fun g _ hg=>hT g hg) (hT _ (by omega)),h.is,h.nr,h.xs,h.sB,h.ox,h.bM⟩
theorem HoldX.kept (h:HoldX s xb B st M W S A c ps o rs q) (hb:Below W.heap.size W W'):HoldX s xb B st M W' S A c ps o rs q:=h.but (But.of_same hb fun _=>False) fun _ _ g=>g
theorem Tree.up (h:Tree W B M xb S A c ps o rs q) {M':Nat} (h1:M≤M') (h2:M'≤W.heap.size):Tree W B M' xb S A c ps o rs q :=
 ⟨h.cell,h.xB,h.own,h.pS,fun g e=>Nat.lt_of_lt_of_le (h.pM g e) h1,h.ini,fun p hp=>(h.lst p hp).but (But.refl (fun _=>False) W) (fun _ _ g=>g) (fun _ _ g=>g) M' h1,h.emp,fun g e=>⟨(h.lt g e).1,Nat.lt_of_lt_of_le (h.lt g e).2 h1⟩,h2⟩
theorem HoldX.up (h:HoldX s xb B st M W S A c ps o rs q) {M':Nat} (h1:M≤M') (h2:M'≤W.heap.size):HoldX s xb B st M' W S A c ps o rs q :=
 ⟨h.stat,h.tree.up h1 h2,h.is,h.nr,h.xs,h.sB,h.ox,Nat.le_trans h.bM h1⟩
end
def PostX (s xb B:Nat) (st:List PPack) (t:List UInt8) (lb b o n cc:Nat) (W:World) (e:Ending) (w':World):Prop :=
 ∃ f:Nat,e=.returned (.int .i64 f)∧f=(stepX st t).1∧(f=0→∃ S A c ps o rs q,HoldX s xb B (stepX st t).2 w'.heap.size w' S A c ps o rs q)∧But (fun g=>(g=xb∨B≤g)∨g=lb) W w'∧LnE w' lb b o n cc∧∃ v,AtV w' xb [v]
theorem PostX.bad {s xb B:Nat} {st:List PPack} {t:List UInt8} {lb b o n cc f:Nat} {W w':World} (hf:f=(stepX st t).1) (h0:f≠0) (hb:But (fun g=>g=lb) W w') (hl:LnE w' lb b o n cc) (hx:∃ v,AtV W xb [v]) (hne:xb≠lb):PostX s xb B st t lb b o n cc W (.returned (.int .i64 f)) w':=by
 obtain ⟨v,hv⟩:=hx
 exact ⟨f,rfl,hf,fun h=>absurd h h0,hb.mono fun g e=>.inr e,hl,v,atv_oth hv hb hne⟩
theorem kept_but {α:Type} {vals:α→List Value} {k:Nat} {E:TypeId} {Ok:World→(Nat→Prop)→α→Prop} {Is:α→Prop} {w:World} {lb B qb qo:Nat} {v:Value} {m:Nat} {xs:List α} {w':World} (h:Kept vals k E Ok Is w lb B qb qo v m xs w'):But (fun g=>(g=lb∨v.ownBlock=some g)∨g=qb) w w':=by
 obtain ⟨x,v',W1,Wa,_,_,hb1,hgr,_,_,rfl⟩:=h
 have k1:But (fun k=>v.ownBlock=some k) W1 Wa:=But.of_grown hgr fun b e=>e
 have kA:But (fun k=>k=lb∨v.ownBlock=some k) w Wa:=(hb1.mono fun k e=>Or.inl e).trans k1 fun k e=>.inl (.inr e)
 exact (kA.mono fun k e=>Or.inl e).trans (but_one Wa qb qo v') fun k e=>.inl (.inr e)
theorem PostX.good {s xb B:Nat} {st:List PPack} {t:List UInt8} {lb b o n cc:Nat} {M:Nat} {W w':World} {S:Nat→Prop} {A:Option Addr} {c:Nat} {ps:List MPack} {op:Option MPack} {rs:List MRel} {q:Option MRel} (h:HoldX s xb B st M W S A c ps op rs q) (hM:M≤lb)
  {T:Nat→Prop} (hb:But T W w') (hT:∀ g,T g→g=lb∨g=xb∨(B≤g∧g<M)) (hl:LnE w' lb b o n cc) {S':Nat→Prop} {A':Option Addr} {c':Nat} {ps':List MPack} {op':Option MPack} {rs':List MRel} {q':Option MRel} {M':Nat}
  (ht:Tree w' B M' xb S' A' c' ps' op' rs' q') (hM':M'≤w'.heap.size) (hMM:M≤M') (h0:(stepX st t).1=0) (his:(ps' ++ op'.toList).map MPack.p=(stepX st t).2) (hnr:q'=none→rs'=[]):PostX s xb B st t lb b o n cc W (.returned (.int .i64 0)) w':=by
 have h1:=h.xs; have h2:=h.sB; have h3:=h.ox; have h4:=h.bM
 refine ⟨0,rfl,h0.symm,fun _=>⟨S',A',c',ps',op',rs',q',⟨h.stat.but hb (fun g hg1 hg2 e=>?_) fun e=>?_,ht.up hM' (Nat.le_refl _),his,hnr,h1,h2,h3,by omega⟩⟩,hb.mono fun g e=>?_,hl,_,ht.cell⟩
 ·rcases hT g e with e | e | e <;> omega
 ·rcases hT _ e with e | e | e <;> omega
 ·rcases hT g e with e | e | e
  ·exact .inr e
  ·exact .inl (.inl e)
  ·exact .inl (.inr e.1)
end Go.Proofs.YtgakcdcfblgagaaDoor.Sheet
