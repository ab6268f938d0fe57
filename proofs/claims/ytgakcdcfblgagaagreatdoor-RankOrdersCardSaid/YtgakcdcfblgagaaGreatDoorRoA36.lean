/-
  What the theorem of the last text needs of these: RkAwake, RkOrders. Conditions: as each theorem states.
-/
import Derived.Test.YtgakcdcfblgagaaGreatDoorRoA1
import Derived.Test.YtgakcdcfblgagaaGreatDoorRoA7
import Derived.Test.YtgakcdcfblgagaaGreatDoorRoA16
import Derived.Test.YtgakcdcfblgagaaGreatDoorRoA23
import Derived.Test.YtgakcdcfblgagaaGreatDoorRoA26
import Derived.Test.YtgakcdcfblgagaaGreatDoorRoA27
import Derived.Test.YtgakcdcfblgagaaGreatDoorRoA28
import Derived.Test.YtgakcdcfblgagaaGreatDoorRoA34
import Derived.Test.YtgakcdcfblgagaaGreatDoorRoA35
set_option maxRecDepth 100000
set_option maxHeartbeats 25600000
namespace Go.Proofs.YtgakcdcfblgagaaGreatDoor.Rank
open Go.RowKit Num Ident Semver Fr Copy
open Range (Rng goodR KeepS LtB RV RAt wt LenOk)
open KR (KRow AtV)
open Model (MVer VerOk MRel RelOk RRow MPack PackOk PRow PRel PPack PlainOf SortOf relLe packLe checkF check_iff FewX FewRel fewD_none SlOk DRow)
open Prec (fullV Fit)
open Span (Sp hasV)
open Nrm (hasR set_has)

theorem set_fk {r:Rng} {o:List Sp} {v:Ver} (h:SetP r o) (hv:goodV v=true):hasV o v=hasR r v:=by
 unfold SetP at h
 split at h
 ·rename_i hg
  rw [Nrm.hasR_good hg hv]; exact set_has h hg hv
 ·rename_i hg
  have hg':goodR r 0=false:=by simpa using hg
  rw [h]; unfold hasR; rw [hg']; rfl
def vA (a:Nat):Ver:=⟨a,0,0,[],[]⟩
def rA (a:Nat):MRel:=⟨⟨vA a,none,0,none,0⟩,false,none,0,[],none,0,[]⟩
def rP (a:Nat):PRel:=⟨vA a,false,[],[]⟩
def pA (R:Addr):MPack:=⟨[97],some R,2,[rA 2,rA 1]⟩
def xT:List PPack:=[⟨[97],[rP 2,rP 1]⟩]
def yT:List PPack:=[⟨[97],[rP 1,rP 2]⟩]
theorem chkT:checkF xT=none:=by decide +kernel
theorem mixT:MixOf xT yT:=by
 refine ⟨yT,rfl,fun i hi=>?_,List.Perm.refl _,List.pairwise_singleton _ _⟩
 obtain rfl:i=0:=by have:xT.length=1:=rfl; omega
 refine ⟨rfl,List.Perm.swap _ _ _,?_⟩
 show List.Pairwise relLe [rP 1,rP 2]
 refine List.Pairwise.cons (fun b hb=>?_) (List.pairwise_singleton _ _)
 obtain rfl:=List.mem_singleton.1 hb
 show fullV (vA 1) (vA 2)≤0
 decide +kernel
theorem plainT {y:List PPack} (h:PlainOf xT y):y=yT:=mix_unique ((check_iff _).1 chkT) (mix_plain h) mixT
theorem rankT:rankO [rP 1,rP 2] (vA 1)=some 0:=by decide +kernel
def rgT:Rng:=.mk 7 (vA 1) []
def rvT:RV:=⟨7,vA 1,none,0,none,0,none,0,0⟩
theorem hasT1:hasR rgT (vA 1)=true:=by decide +kernel
theorem hasT2:hasR rgT (vA 2)=false:=by decide +kernel
theorem ver_ok (a:Nat) (ha:a=1∨a=2) (w:World) (S:Nat→Prop):VerOk w S ⟨vA a,none,0,none,0⟩:=by
 rcases ha with rfl | rfl <;> exact ⟨SRow.none_ _ _,SRow.none_ _ _,fun h=>absurd h (Nat.lt_irrefl _),fun h=>absurd h (Nat.lt_irrefl _),Nat.le_refl _,Nat.le_refl _,⟨by decide,by decide,by decide,by decide,by decide,by simp [vA],by simp [vA]⟩⟩
theorem krow_two {α:Type} [Inhabited α] {vals:α→List Value} {k:Nat} (hk:∀ x,(vals x).length=k) (w:World) (t:TypeId) (x y:α) {B:Nat} (hB:w.heap.size<B):KRow vals k (w.alloc (.cells (vals x ++ vals y).toArray t)) (LtB B) (some ⟨w.heap.size,0,none⟩) 2 [x,y]:=by
 refine ⟨rfl,fun _=>⟨w.heap.size,0,rfl,hB,by simp,fun j hj i u hu=>?_⟩⟩
 have hat:=AtV.new w t (vals x ++ vals y)
 obtain rfl | rfl:j=0∨j=1:=by omega
 ·have hu':(vals x)[i]?=some u:=hu
  have hi:i<(vals x).length:=by
   rcases Nat.lt_or_ge i (vals x).length with g | g
   ·exact g
   ·rw [List.getElem?_eq_none g] at hu'; cases hu'
  have:=hat.at_ i u (by rw [List.getElem?_append_left hi]; exact hu')
  rw [show (0:Nat)+0 * k+i=i by omega]; exact this
 ·have hu':(vals y)[i]?=some u:=hu
  have:=hat.at_ (k+i) u (by rw [List.getElem?_append_right (by rw [hk]; omega),hk,Nat.add_sub_cancel_left]; exact hu')
  rw [show (0:Nat)+1 * k+i=k+i by omega]; exact this
theorem awakeX (w:World):∃ W,W=((w.alloc (.cells #[.int .u64 2,.int .u64 0,.int .u64 0,.slice none 0 0,.slice none 0 0,.bool false,.slice none 0 0,.slice none 0 0,.int .u64 1,.int .u64 0,.int .u64 0,.slice none 0 0,.slice none 0 0,.bool false,.slice none 0 0,.slice none 0 0] 46)).alloc (.cells #[.string { data:=#[97] },.slice (some ⟨w.heap.size,0,none⟩) 2 2] 48)).alloc (.cells #[.slice (some ⟨w.heap.size+1,0,none⟩) 1 1] 26)∧PRow W (LtB W.heap.size) (some ⟨w.heap.size+1,0,none⟩) 1 [pA ⟨w.heap.size,0,none⟩]∧AtV W (w.heap.size+1+1) [.slice (some ⟨w.heap.size+1,0,none⟩) 1 1]∧Below w.heap.size w W:=by
 obtain ⟨B,hB⟩:∃ B,B=w.heap.size+3:=⟨_,rfl⟩
 obtain ⟨V1,hV1⟩:∃ V,V=w.alloc (.cells ((rA 2).vals ++ (rA 1).vals).toArray 46):=⟨_,rfl⟩
 have k1:KRow MRel.vals 8 V1 (LtB B) (some ⟨w.heap.size,0,none⟩) 2 [rA 2,rA 1]:=by rw [hV1]; exact krow_two (vals:=MRel.vals) (k:=8) (B:=B) (fun _=>rfl) w _ _ _ (by rw [hB]; omega)
 have z1:V1.heap.size=w.heap.size+1:=by rw [hV1]; simp
 have ro:∀ a,a=1∨a=2→RelOk V1 (LtB B) (rA a):=fun a ha=>⟨ver_ok a ha _ _,DRow.none_ _ _,DRow.none_ _ _,⟨Nat.le_refl _,by show 0≤maxLen; unfold maxLen; omega⟩,⟨Nat.le_refl _,by show 0≤maxLen; unfold maxLen; omega⟩,(fun _=>rfl),fun _=>rfl⟩
 have ok1:RRow V1 (LtB B) (some ⟨w.heap.size,0,none⟩) 2 [rA 2,rA 1]:=⟨k1,fun d hd=>by
  rcases List.mem_cons.1 hd with rfl | hd
  ·exact ro 2 (by omega)
  ·obtain rfl:=List.mem_singleton.1 hd; exact ro 1 (by omega)⟩
 obtain ⟨p,hp⟩:∃ p,p=pA ⟨w.heap.size,0,none⟩:=⟨_,rfl⟩
 obtain ⟨V2,hV2⟩:∃ V,V=V1.alloc (.cells p.vals.toArray 48):=⟨_,rfl⟩
 have z2:V2.heap.size=w.heap.size+1+1:=by rw [hV2]; simp [z1]
 have k2:KRow MPack.vals 2 V2 (LtB B) (some ⟨w.heap.size+1,0,none⟩) 1 [p]:=by rw [hV2,← z1]; exact krow_one V1 _ _ (by omega)
 have po:PackOk V2 (LtB B) p:=by
  have:=ok1.keep (KeepS.alloc (S:=LtB B) V1 (.cells p.vals.toArray 48))
  rw [← hV2] at this
  rw [hp]
  exact ⟨by show 1≤maxLen; unfold maxLen; omega,this,⟨Nat.le_refl _,by show 2≤maxLen; unfold maxLen; omega⟩,fun e=>by cases e⟩
 have ok2:PRow V2 (LtB B) (some ⟨w.heap.size+1,0,none⟩) 1 [p]:=⟨k2,fun d hd=>by obtain rfl:=List.mem_singleton.1 hd; exact po⟩
 have a3:AtV (V2.alloc (.cells #[.slice (some ⟨w.heap.size+1,0,none⟩) 1 1] 26)) (w.heap.size+1+1) [.slice (some ⟨w.heap.size+1,0,none⟩) 1 1]:=by rw [← z2]; exact AtV.new V2 _ _
 have hB3:(V2.alloc (.cells #[.slice (some ⟨w.heap.size+1,0,none⟩) 1 1] 26)).heap.size=B:=by simp [z2]; omega
 refine ⟨V2.alloc (.cells #[.slice (some ⟨w.heap.size+1,0,none⟩) 1 1] 26),by rw [hV2,hp,hV1]; rfl,?_,a3,?_⟩
 ·rw [hB3,← hp]
  exact ok2.keep (KeepS.alloc (S:=LtB B) V2 _)
 ·rw [hV2,hV1]
  exact (((Below.refl _ _).alloc (Nat.le_refl _) _).alloc (by simp) _).alloc (by simp; omega) _
theorem few_pA (R:Addr):FewX [pA R] :=
 ⟨by simp,(fun p hp=>by obtain rfl:=List.mem_singleton.1 hp; exact ⟨by show 1≤300; omega,by show 2≤6; omega⟩),fun p hp r hr=>by
  obtain rfl:=List.mem_singleton.1 hp
  rcases List.mem_cons.1 hr with rfl | hr
  ·exact ⟨by show 0≤20; omega,by show 0≤20; omega,fewD_none,fewD_none⟩
  ·obtain rfl:r=rA 1:=List.mem_singleton.1 hr
   exact ⟨by show 0≤20; omega,by show 0≤20; omega,fewD_none,fewD_none⟩⟩
theorem runsT {q:MPack} {o:List Sp} (hq:q.rels.map MRel.p=[rP 1,rP 2]) (h:SetP rgT o):runsTo (fk o q) q.rels.length=[(0,1)]:=by
 have hl:q.rels.length=2:=by have:=congrArg List.length hq; rwa [List.length_map] at this
 have h0:(vk q 0).v=vA 1:=by
  have:=congrArg (fun l=>(l.getD 0 default).v) hq
  simp only [rels_getD] at this; exact this
 have h1:(vk q 1).v=vA 2:=by
  have:=congrArg (fun l=>(l.getD 1 default).v) hq
  simp only [rels_getD] at this; exact this
 have f0:fk o q 0=true:=by unfold fk; rw [h0,set_fk h (by decide +kernel)]; exact hasT1
 have f1:fk o q 1=false:=by unfold fk; rw [h1,set_fk h (by decide +kernel)]; exact hasT2
 rw [hl]
 show (if fk o q 1=true then _ else _)=_
 rw [f1,if_neg Bool.false_ne_true]
 show (if fk o q 0=true then _ else _)=_
 rw [f0,if_pos rfl]
 rfl
theorem awake11_any (w:World) (ht:Tab w):Calls Tryz.prog 12 #[] w fun e w'=>e=.returned (.bool true)∧Below w.heap.size w w':=by
 have HT:=Lib.hid ht
 clear ht
 obtain ⟨W,hW,hx,hi,hb⟩:=awakeX w
 have HX:=Lib.hid hx
 have HI:=Lib.hid hi
 have HB:=Lib.hid hb
 clear hx hi hb
 go_enter Tryz.func12,Tryz.ntmps12
 go_upto_region 2 with (fail)
 rw [← hW]
 clear hW
 obtain ⟨z,hz⟩:∃ z,w.heap.size=z:=⟨_,rfl⟩
 rw [hz] at HX HI ⊢
 have HZ:=Lib.hid hz
 clear hz
 have i0:=HI.out.at_ 0 _ rfl
 have HN:=Lib.hid (new_any _ 1 1 _ W.heap.size W HX.out (Nat.le_refl _) (few_pA _) (HT.out.kept HB.out))
 go_wp2_with fail
 refine HN.out.mono ?_
 rintro e W1 ⟨h1,_,hb1⟩
 obtain ⟨tb,mb,A,c,y,rfl,htb,hpl⟩:=h1 chkT
 have HTB:=Lib.hid htb
 have HY:Hid (y.map MPack.p=yT):=plainT hpl
 have HB1:=Lib.hid (HB.out.trans (hb1.mono HB.out.size))
 clear h1 hb1 htb hpl i0 HN
 have HRL:Hid ((packM y 0).rels.map MRel.p=[rP 1,rP 2]):=by
  unfold Hid
  rw [packM_rels,HY.out]; rfl
 have HRK:=Lib.hid (rank_any tb mb A y.length c y 0 ⟨vA 1,none,0,none,0⟩ (LtB W1.heap.size) W1 HTB.out (ver_ok 1 (.inl rfl) _ _))
 rw [HRL.out,rankT] at HRK
 go_wp2_with fail
 refine HRK.out.mono ?_
 rintro e W2 ⟨rfl,hb2⟩
 have HTB2:=Lib.hid (HTB.out.kept hb2)
 have HB2:=Lib.hid (HB1.out.trans (hb2.mono HB1.out.size))
 clear hb2
 have HRU:=Lib.hid (runs_any tb mb A y.length c y 0 rgT rvT W2.heap.size W2 HTB2.out (Range.Lies.version 7 (vA 1) none 0 none 0 (SRow.none_ _ _) (SRow.none_ _ _) (Range.InS.none_ _ _) (Range.InS.none_ _ _) (Nat.le_refl _) (Nat.le_refl _) (ver_ok 1 (.inl rfl) W2 (LtB W2.heap.size)).fit) (Nat.le_refl _) (LenOk.mk _ _ _ (by simp) (by simp)) (fun _=>by decide +kernel))
 go_wp2_with fail
 refine HRU.out.mono ?_
 rintro e W3 ⟨o,B,V,rfl,hset,hBs,hown,hb3⟩
 rw [runsT HRL.out hset] at hown
 have HTB3:=Lib.hid (HTB2.out.kept hb3)
 have HB3:=Lib.hid (HB2.out.trans (hb3.mono HB2.out.size))
 obtain ⟨RA,rc,hv,hnc,_,hrow⟩:=KRow.of_own (vals:=rvals) (S:=fun _=>True) rvals_len hown rfl (fun _ _ _=>trivial)
 subst hv
 obtain ⟨b,o',rfl,_,hbl,hcs⟩:=hrow.at_ (show 0<1 by omega)
 have r0:W3.cell? ⟨b,o',none⟩=some (.int .i64 0):=hcs 0 _ rfl
 have r1:W3.cell? ⟨b,o'+1,none⟩=some (.int .i64 1):=hcs 1 _ rfl
 clear hcs hset hown hb3 hrow hnc HRU HRK
 have HSZ:=Lib.hid (size_any tb mb A y.length c y 0 W3 HTB3.out)
 rw [show (packM y 0).rels.length=2 by have:=congrArg List.length HRL.out; rwa [List.length_map] at this] at HSZ
 go_wp2_with fail
 refine HSZ.out.mono ?_
 rintro e W4 ⟨rfl,hb4⟩
 have HB4:=Lib.hid (HB3.out.trans (hb4.mono HB3.out.size))
 clear hb4
 go_wp2
 go_ret
 exact ⟨rfl,by first | exact HB4.out | (rw [← HZ.out]; exact HB4.out)⟩
end Go.Proofs.YtgakcdcfblgagaaGreatDoor.Rank
namespace Go.Proofs.YtgakcdcfblgagaaGreatDoor.Rank
open Go.RowKit Num Ident Semver Fr Copy
open Range (Rng goodR KeepS LtB RV RAt wt LenOk)
open KR (KRow AtV)
open Model (MVer VerOk MRel RelOk RRow MPack PackOk PRow PRel PPack PlainOf checkF checkV out4 FewX FewRel SlOk DRow SPRow SolAt less_text lawFew_any refCheck_any few_modest)
open Prec (fullV Fit refFull_all)

theorem chk_out {x:List PPack}:decide ((out4 (checkF x)).2.2.2=0)=(checkF x).isNone:=by
 rw [Bool.eq_iff_iff,decide_eq_true_iff,check_zero,Option.isNone_iff_eq_none]
theorem right11_any (A:Option Addr) (n c:Nat) (x:List MPack) (B:Nat) (w:World) (h:PRow w (LtB B) A n x) (hB:B≤w.heap.size) (oa:SlOk A n c) (hf:FewX x) :
  Calls Tryz.prog 15 #[.agg #[.slice A n c]] w fun e w'=>e=.returned (.bool (checkF (x.map MPack.p)).isNone)∧Below w.heap.size w w':=by
 obtain ⟨W0,hW,hav,hb0⟩:∃ W,W=w.alloc (.cells #[.slice A n c] 26)∧AtV W w.heap.size [.slice A n c]∧Below w.heap.size w W:=⟨_,rfl,AtV.new w _ _,(Below.refl _ _).alloc (Nat.le_refl _) _⟩
 have HA:=Lib.hid hav
 have HB:=Lib.hid hb0
 have HC:=Lib.hid (refCheck_any A n c x B W0 (h.keep (KeepS.of_below hb0)) (Nat.le_trans hB hb0.size) oa.len (few_modest hf))
 have HE:Hid (decide ((out4 (checkF (x.map MPack.p))).2.2.2=0)=(checkF (x.map MPack.p)).isNone):=chk_out
 unfold checkV at HC
 clear h hav hb0
 rw [← HE.out]
 obtain ⟨⟨q1,q2,q3,q4⟩,hq⟩:∃ q,out4 (checkF (x.map MPack.p))=q:=⟨_,rfl⟩
 rw [hq] at HC ⊢
 clear hq HE
 go_enter Tryz.func15,Tryz.ntmps15
 go_upto_region 1 with (fail)
 rw [← hW]
 clear hW
 have i0:=HA.out.at_ 0 _ rfl
 go_wp2_with fail
 refine HC.out.mono ?_
 rintro e W1 ⟨rfl,hb1⟩
 have HB1:=Lib.hid (HB.out.trans (hb1.mono HB.out.size))
 clear hb1 i0
 go_upto_region 2 with (fail)
 have HB2:Hid (Below w.heap.size w (W1.alloc (.cells #[.int .i64 q1,.int .i64 q2,.int .i64 q3] 104))):=HB1.out.alloc HB1.out.size _
 generalize W1.alloc (.cells #[.int .i64 q1,.int .i64 q2,.int .i64 q3] 104)=W2 at HB2 ⊢
 go_wp2
 go_ret
 exact ⟨rfl,HB2.out⟩
/-! What the law asks of a table. -/
theorem names_nodup {y:List PPack} (h:TabOk y):(y.map PPack.name).Nodup:=List.pairwise_map.2 (h.names.imp fun {p q} g e=>by rw [e] at g; exact Std.lt_irrefl g)
theorem find_self {y:List MPack} (h:TabOk (y.map MPack.p)) {k:Nat} (hk:k<y.length):findI (y.map MPack.name) (nameO (y.map MPack.p) (k:Int))=(k:Int)∧nameO (y.map MPack.p) (k:Int) ∈ y.map MPack.name:=by
 have hn:(y.map MPack.name).Nodup:=by
  have:=names_nodup h
  rw [List.map_map] at this
  exact this
 have e:nameO (y.map MPack.p) (k:Int)=(y.map MPack.name).getD k []:=by
  rw [← packM_name,packM_in hk,List.getD_eq_getElem?_getD,List.getD_eq_getElem?_getD,List.getElem?_map,List.getElem?_eq_getElem hk]; rfl
 have hm:(y.map MPack.name).getD k [] ∈ y.map MPack.name:=by
  rw [List.getD_eq_getElem?_getD,List.getElem?_eq_getElem (by rw [List.length_map]; exact hk)]; exact List.getElem_mem _
 rw [e]
 refine ⟨?_,hm⟩
 unfold findI
 rw [if_pos hm,Name.find_of hn k (by rw [List.length_map]; exact hk)]
theorem name_up {y:List MPack} (h:TabOk (y.map MPack.p)) {k:Nat} (h0:0<k) (hk:k<y.length):Op.bytesLess (Ident.mk (nameO (y.map MPack.p) ((k:Int) - 1))).toList (Ident.mk (nameO (y.map MPack.p) (k:Int))).toList=true:=by
 rw [less_text,decide_eq_true_iff]
 have:=pwD h.names (show k - 1<k by omega) (by rw [List.length_map]; exact hk)
 rw [Copy.getD_p,Copy.getD_p] at this
 rw [show (k:Int) - 1=((k - 1:Nat):Int) by omega,← packM_name,← packM_name,packM_in (by omega),packM_in hk]
 exact this
theorem rels_in {W:World} {tb mb:Nat} {A:Option Addr} {n c:Nat} {y:List MPack} (h:Tbl W tb mb A n c y) (p:Int) (k:Nat) (hk:k<(packM y p).rels.length) {r:MRel} (hr:r.p=(relM (packM y p).rels (k:Int)).p):r.ver.v=(vk (packM y p) k).v∧goodV r.ver.v=true∧rankO ((packM y p).rels.map MRel.p) r.ver.v=some k:=by
 rw [(relM_in hk).1] at hr
 have e:r.ver.v=(vk (packM y p) k).v:=congrArg PRel.v hr
 refine ⟨e,by rw [e]; exact vk_good h k hk,?_⟩
 have:=rank_self (h.pack p).2.2.2.2 (k:=k) (by rw [List.length_map]; exact hk)
 rw [rels_getD] at this
 rw [e]; exact this
theorem rankOrders_any (A:Option Addr) (n c:Nat) (x:List MPack) (w:World) (hx:PRow w (LtB w.heap.size) A n x) (oa:SlOk A n c) (ht:Tab w) :
  Calls Tryz.prog 6 #[.agg #[.slice A n c]] w fun e w'=>e=.returned (.bool true)∧Below w.heap.size w w':=by
 have HT:=Lib.hid ht
 have HX:=Lib.hid hx
 have OA:=Lib.hid oa
 clear hx oa ht
 obtain ⟨W0,hW,hav,hb0⟩:∃ W,W=w.alloc (.cells #[.slice A n c] 26)∧AtV W w.heap.size [.slice A n c]∧Below w.heap.size w W:=⟨_,rfl,AtV.new w _ _,(Below.refl _ _).alloc (Nat.le_refl _) _⟩
 have HS0:Hid (SolAt w w.heap.size A n c W0):=⟨hav,hb0⟩
 clear hav hb0
 go_enter Tryz.func6,Tryz.ntmps6
 go_upto_region 1 with (fail)
 rw [← hW]
 clear hW
 obtain ⟨ib,hib⟩:∃ ib,w.heap.size=ib:=⟨_,rfl⟩
 rw [hib] at HS0 ⊢
 have HIB:=Lib.hid hib
 clear hib
 go_wp2_with fail
 refine (awake11_any _ (HT.out.kept HS0.out.bel)).mono ?_
 rintro e W1 ⟨rfl,hb⟩
 have HS1:=Lib.hid (HS0.out.kept hb)
 clear hb HS0
 have i0:=HS1.out.ix.at_ 0 _ rfl
 go_wp2_with fail
 refine (lawFew_any A n c x none 0 0 [] none 0 0 [] w.heap.size W1 (HX.out.keep (KeepS.of_below HS1.out.bel)) (DRow.none_ _ _) (SPRow.none_ _ _) HS1.out.bel.size OA.out.len (Nat.zero_le _) (Nat.zero_le _)).mono ?_
 rintro e W2 ⟨z,rfl,hf,hb⟩
 have HS2:=Lib.hid (HS1.out.kept hb)
 clear hb HS1 i0
 by_cases hz:z=0
 ·have HF:=Lib.hid (hf hz).1
  have hzb:(z != 0)=false:=by rw [hz]; rfl
  clear hz hf
  have i0:=HS2.out.ix.at_ 0 _ rfl
  have HN:=Lib.hid (new_any A n c x w.heap.size W2 (HX.out.keep (KeepS.of_below HS2.out.bel)) HS2.out.bel.size HF.out (HT.out.kept HS2.out.bel))
  go_wp2_with fail
  refine HN.out.mono ?_
  rintro e W3 ⟨h1,h2,hb⟩
  have HS3:=Lib.hid (HS2.out.kept hb)
  clear hb HS2 i0 HN
  by_cases hc:checkF (x.map MPack.p)=none
  ·obtain ⟨tb,mb,A',c',y,rfl,htb,_⟩:=h1 hc
   have HTB:=Lib.hid htb
   clear h1 h2 htb hc
   go_wp2
   go_loopw [4] (fun v W=>∃ p:Nat,p≤y.length∧v=.int .i64 p∧Hid (Below W3.heap.size W3 W)) (fun v _=>y.length - (intOf v).toNat)
   case atStart=>exact ⟨0,Nat.zero_le _,rfl,Below.refl _ _⟩
   case round =>
    rename World=>wk
    obtain ⟨p,hp,rfl,HW⟩:=hrel
    have HTK:=Lib.hid (HTB.out.kept HW.out)
    have hp6:y.length≤6:=HTB.out.len.2
    go_wp2_with fail
    refine (len_any tb mb A' y.length c' y wk HTK.out).mono ?_
    rintro e w' ⟨rfl,rfl⟩
    by_cases hlt:p<y.length
    ·have HSF:=Lib.hid (find_self HTK.out.ok hlt)
     have HNU:Hid (0<p→Op.bytesLess (Ident.mk (nameO (y.map MPack.p) ((p:Int) - 1))).toList (Ident.mk (nameO (y.map MPack.p) (p:Int))).toList=true):=fun h0=>name_up HTK.out.ok h0 hlt
     obtain ⟨s1,hs1⟩:∃ s,nameO (y.map MPack.p) (p:Int)=s:=⟨_,rfl⟩
     obtain ⟨s0,hs0⟩:∃ s,nameO (y.map MPack.p) ((p:Int) - 1)=s:=⟨_,rfl⟩
     have HNA:Hid (∀ W,Below W3.heap.size W3 W→Calls Tryz.prog 25 #[.pointer (some ⟨tb,0,none⟩),.int .i64 p] W fun e w'=>e=.returned (.string (Ident.mk s1))∧Below W.heap.size W w'):=fun W hb=>by rw [← hs1]; exact name_any tb mb A' y.length c' y (p:Int) W (HTB.out.kept hb)
     have HNB:Hid (∀ W,Below W3.heap.size W3 W→Calls Tryz.prog 25 #[.pointer (some ⟨tb,0,none⟩),.int .i64 ((p:Int) - 1)] W fun e w'=>e=.returned (.string (Ident.mk s0))∧Below W.heap.size W w'):=fun W hb=>by rw [← hs0]; exact name_any tb mb A' y.length c' y ((p:Int) - 1) W (HTB.out.kept hb)
     have HSZ1:Hid ((Ident.mk s1).size≤maxLen):=by
      unfold Hid
      rw [mk_size,← hs1,← packM_name]
      have:=(HTB.out.pack (p:Int)).2.2.1
      unfold maxLen; omega
     rw [hs1] at HSF
     rw [hs1,hs0] at HNU
     clear hs0 hs1
     go_wp2_with fail
     refine (HNA.out wk HW.out).mono ?_
     rintro e W4 ⟨rfl,hb4⟩
     have HW4:=Lib.hid (HW.out.trans (hb4.mono HW.out.size))
     clear hb4
     have HFI:=Lib.hid (find_any tb mb A' y.length c' y (Ident.mk s1) W4 (HTB.out.kept HW4.out) HSZ1.out)
     rw [mk_list,HSF.out.1,decide_eq_true HSF.out.2] at HFI
     go_wp2_with fail
     refine HFI.out.mono ?_
     rintro e w' ⟨rfl,rfl⟩
     by_cases h0:0<p
     ·have hless:=HNU.out h0
      have h0i:(0:Int)<(p:Int):=by omega
      go_wp2_with fail
      refine (HNB.out W4 HW4.out).mono ?_
      rintro e W4a ⟨rfl,hb⟩
      have HW4a:=Lib.hid (HW4.out.trans (hb.mono HW4.out.size))
      clear hb
      go_wp2_with fail
      refine (HNA.out W4a HW4a.out).mono ?_
      rintro e W4b ⟨rfl,hb⟩
      have HW4b:=Lib.hid (HW4a.out.trans (hb.mono HW4a.out.size))
      clear hb
      go_wp2
      go_loopw [7] (fun v W=>∃ k:Nat,k≤(packM y (p:Int)).rels.length∧v=.int .i64 k∧Hid (Below W3.heap.size W3 W)) (fun v _=>(packM y (p:Int)).rels.length - (intOf v).toNat)
      case atStart=>exact ⟨0,Nat.zero_le _,rfl,HW4b.out⟩
      case round =>
       rename World=>wi
       obtain ⟨k,hk,rfl,HWI⟩:=hrel
       have hk6:(packM y (p:Int)).rels.length≤6:=(HTB.out.pack (p:Int)).2.1
       have HSI:=Lib.hid (size_any tb mb A' y.length c' y (p:Int) wi (HTB.out.kept HWI.out))
       go_wp2_with fail
       refine HSI.out.mono ?_
       rintro e W6 ⟨rfl,hb6⟩
       have HW6:=Lib.hid (HWI.out.trans (hb6.mono HWI.out.size))
       clear hb6 HSI
       by_cases hkl:k<(packM y (p:Int)).rels.length
       ·have HKL:=Lib.hid hkl
        have HRA:=Lib.hid (release_any tb mb A' y.length c' y (p:Int) (k:Int) W6 (HTB.out.kept HW6.out))
        go_wp2_with fail
        refine HRA.out.mono ?_
        rintro e W7 ⟨r,rfl,hrp,hro,hb7⟩
        rw [(relM_in HKL.out).2]
        have HR7:=Lib.hid (rels_in HTB.out (p:Int) k HKL.out hrp)
        have HRO:=Lib.hid hro
        have HW7:=Lib.hid (HW6.out.trans (hb7.mono HW6.out.size))
        clear hrp hro hb7 HRA
        unfold MRel.agg
        go_upto_region 18 with (fail)
        have HAL:Hid (Below W7.heap.size W7 (W7.alloc (.cells #[r.ver.v.a,r.ver.v.b,r.ver.v.c,.slice r.ver.A r.ver.v.pre.length r.ver.c,.slice r.ver.B r.ver.v.build.length r.ver.d,.bool r.yanked,.slice r.N r.needs.length r.nc,.slice r.B r.bans.length r.bc] 46))):=(Below.refl _ _).alloc (Nat.le_refl _) _
        have HRB:Hid (AtV (W7.alloc (.cells #[r.ver.v.a,r.ver.v.b,r.ver.v.c,.slice r.ver.A r.ver.v.pre.length r.ver.c,.slice r.ver.B r.ver.v.build.length r.ver.d,.bool r.yanked,.slice r.N r.needs.length r.nc,.slice r.B r.bans.length r.bc] 46)) W7.heap.size [.int .u64 r.ver.v.a,.int .u64 r.ver.v.b,.int .u64 r.ver.v.c,.slice r.ver.A r.ver.v.pre.length r.ver.c,.slice r.ver.B r.ver.v.build.length r.ver.d,.bool r.yanked,.slice r.N r.needs.length r.nc,.slice r.B r.bans.length r.bc]):=AtV.new W7 _ _
        have HRO8:=Lib.hid (HRO.out.keep (KeepS.of_below HAL.out))
        have HW8:=Lib.hid (HW7.out.trans (HAL.out.mono HW7.out.size))
        obtain ⟨rb,hrb⟩:∃ rb,W7.heap.size=rb:=⟨_,rfl⟩
        rw [hrb] at HRB HRO8 ⊢
        have HRBE:=Lib.hid hrb
        clear hrb HRO HAL
        generalize W7.alloc (.cells #[r.ver.v.a,r.ver.v.b,r.ver.v.c,.slice r.ver.A r.ver.v.pre.length r.ver.c,.slice r.ver.B r.ver.v.build.length r.ver.d,.bool r.yanked,.slice r.N r.needs.length r.nc,.slice r.B r.bans.length r.bc] 46)=W8 at HRB HRO8 HW8 ⊢
        have q0:=HRB.out.at_ 0 _ rfl
        have q1:=HRB.out.at_ 1 _ rfl
        have q2:=HRB.out.at_ 2 _ rfl
        have q3:=HRB.out.at_ 3 _ rfl
        have q4:=HRB.out.at_ 4 _ rfl
        have HRK:=Lib.hid (rank_any tb mb A' y.length c' y (p:Int) r.ver (LtB rb) W8 (HTB.out.kept HW8.out) HRO8.out.ver)
        rw [HR7.out.2.2] at HRK
        unfold MVer.agg at HRK
        go_wp2_with fail
        refine HRK.out.mono ?_
        rintro e W9 ⟨rfl,hb9⟩
        have HRB9:=Lib.hid (HRB.out.kept hb9 HRB.out.lt)
        have HRO9:=Lib.hid (HRO8.out.keep (KeepS.of_below (S:=LtB rb) hb9))
        have HW9:=Lib.hid (HW8.out.trans (hb9.mono HW8.out.size))
        clear hb9 HRK q0 q1 q2 q3 q4 HRB HRO8
        have q0:=HRB9.out.at_ 0 _ rfl
        have q1:=HRB9.out.at_ 1 _ rfl
        have q2:=HRB9.out.at_ 2 _ rfl
        have q3:=HRB9.out.at_ 3 _ rfl
        have q4:=HRB9.out.at_ 4 _ rfl
        have HFT:=Lib.hid HRO9.out.ver.fit
        have HGO:=Lib.hid (refGood_all r.ver.v r.ver.A r.ver.c r.ver.B r.ver.d W9 HRO9.out.ver.pre HRO9.out.ver.build HFT.out.pre HFT.out.build HFT.out.pres HFT.out.builds)
        rw [HR7.out.2.1] at HGO
        go_wp2_with fail
        refine HGO.out.mono ?_
        rintro e W10 ⟨rfl,hb10⟩
        have HRB10:=Lib.hid (HRB9.out.kept hb10 HRB9.out.lt)
        have HRO10:=Lib.hid (HRO9.out.keep (KeepS.of_below (S:=LtB rb) hb10))
        have HW10:=Lib.hid (HW9.out.trans (hb10.mono HW9.out.size))
        clear hb10 HGO q0 q1 q2 q3 q4 HRB9 HRO9
        have HRA2:=Lib.hid (release_any tb mb A' y.length c' y (p:Int) ((k:Int)+1) W10 (HTB.out.kept HW10.out))
        go_wp2_with fail
        refine HRA2.out.mono ?_
        rintro e W11 ⟨r2,rfl,hrp2,hro2,hb11⟩
        have HRO2:=Lib.hid hro2
        have HRP2:=Lib.hid hrp2
        have HRB11:=Lib.hid (HRB10.out.kept hb11 HRB10.out.lt)
        have HRO11:=Lib.hid (HRO10.out.keep (KeepS.of_below (S:=LtB rb) hb11))
        have HW11:=Lib.hid (HW10.out.trans (hb11.mono HW10.out.size))
        clear hrp2 hro2 hb11 HRA2 HRB10 HRO10
        obtain ⟨bl,hbl⟩:∃ bl,relB (packM y (p:Int)).rels ((k:Int)+1)=bl:=⟨_,rfl⟩
        have HBL:=Lib.hid hbl
        rw [hbl]
        clear hbl
        unfold MRel.agg
        go_upto_region 22 with (fail)
        have HAL:Hid (Below W11.heap.size W11 (W11.alloc (.cells #[r2.ver.v.a,r2.ver.v.b,r2.ver.v.c,.slice r2.ver.A r2.ver.v.pre.length r2.ver.c,.slice r2.ver.B r2.ver.v.build.length r2.ver.d,.bool r2.yanked,.slice r2.N r2.needs.length r2.nc,.slice r2.B r2.bans.length r2.bc] 46))):=(Below.refl _ _).alloc (Nat.le_refl _) _
        have HRC:Hid (AtV (W11.alloc (.cells #[r2.ver.v.a,r2.ver.v.b,r2.ver.v.c,.slice r2.ver.A r2.ver.v.pre.length r2.ver.c,.slice r2.ver.B r2.ver.v.build.length r2.ver.d,.bool r2.yanked,.slice r2.N r2.needs.length r2.nc,.slice r2.B r2.bans.length r2.bc] 46)) W11.heap.size [.int .u64 r2.ver.v.a,.int .u64 r2.ver.v.b,.int .u64 r2.ver.v.c,.slice r2.ver.A r2.ver.v.pre.length r2.ver.c,.slice r2.ver.B r2.ver.v.build.length r2.ver.d,.bool r2.yanked,.slice r2.N r2.needs.length r2.nc,.slice r2.B r2.bans.length r2.bc]):=AtV.new W11 _ _
        have HRB12:=Lib.hid (HRB11.out.kept HAL.out HRB11.out.lt)
        have HRO12:=Lib.hid (HRO11.out.keep (KeepS.of_below (S:=LtB rb) HAL.out))
        have HRO22:=Lib.hid (HRO2.out.keep (KeepS.of_below HAL.out))
        have HW12:=Lib.hid (HW11.out.trans (HAL.out.mono HW11.out.size))
        obtain ⟨rc,hrc⟩:∃ rc,W11.heap.size=rc:=⟨_,rfl⟩
        rw [hrc] at HRC HRO22 ⊢
        clear hrc HRO2 HAL HRB11 HRO11
        generalize W11.alloc (.cells #[r2.ver.v.a,r2.ver.v.b,r2.ver.v.c,.slice r2.ver.A r2.ver.v.pre.length r2.ver.c,.slice r2.ver.B r2.ver.v.build.length r2.ver.d,.bool r2.yanked,.slice r2.N r2.needs.length r2.nc,.slice r2.B r2.bans.length r2.bc] 46)=W12 at HRC HRB12 HRO12 HRO22 HW12 ⊢
        cases hbb:bl with
        | false =>
         clear hbb
         go_wp2
         exact ⟨⟨k+1,by omega,by go_num,HW12.out⟩,by simp [intOf]; omega⟩
        | true =>
         have HKK:Hid (k+1<(packM y (p:Int)).rels.length):=by
          have h:=HBL.out
          rw [hbb] at h
          have h2:=of_decide_eq_true h
          unfold Hid
          omega
         clear hbb
         have HNE:Hid (fullV r.ver.v r2.ver.v<0):=by
          have h2:=rels_in HTB.out (p:Int) (k+1) HKK.out (r:=r2) HRP2.out
          unfold Hid
          rw [h2.1,HR7.out.1]
          exact vk_up HTB.out k (k+1) (by omega) HKK.out
         have HFV:=Lib.hid (refFull_all r.ver.v r2.ver.v r.ver.A r.ver.B r2.ver.A r2.ver.B r.ver.c r.ver.d r2.ver.c r2.ver.d W12 HRO12.out.ver.pre HRO12.out.ver.build HRO22.out.ver.pre HRO22.out.ver.build HFT.out.pre HFT.out.build HRO22.out.ver.fit.pre HRO22.out.ver.fit.build HFT.out.pres HFT.out.builds HRO22.out.ver.fit.pres HRO22.out.ver.fit.builds)
         obtain ⟨fv,hfv⟩:∃ fv,fullV r.ver.v r2.ver.v=fv:=⟨_,rfl⟩
         rw [hfv] at HNE HFV
         clear hfv
         have hnn:¬ (0:Int)≤fv:=by have:=HNE.out; omega
         have q0:=HRB12.out.at_ 0 _ rfl
         have q1:=HRB12.out.at_ 1 _ rfl
         have q2:=HRB12.out.at_ 2 _ rfl
         have q3:=HRB12.out.at_ 3 _ rfl
         have q4:=HRB12.out.at_ 4 _ rfl
         have d0:=HRC.out.at_ 0 _ rfl
         have d1:=HRC.out.at_ 1 _ rfl
         have d2:=HRC.out.at_ 2 _ rfl
         have d3:=HRC.out.at_ 3 _ rfl
         have d4:=HRC.out.at_ 4 _ rfl
         go_wp2_with fail
         refine HFV.out.mono ?_
         rintro e W13 ⟨rfl,hb13⟩
         have HW13:=Lib.hid (HW12.out.trans (hb13.mono HW12.out.size))
         clear hb13 q0 q1 q2 q3 q4 d0 d1 d2 d3 d4
         go_wp2
         exact ⟨⟨k+1,by omega,by go_num,HW13.out⟩,by simp [intOf]; omega⟩
       ·obtain rfl:k=(packM y (p:Int)).rels.length:=by omega
        go_wp2
        exact ⟨⟨p+1,by omega,by go_num,HW6.out⟩,by simp [intOf]; omega⟩
     ·have h0i:¬ (0:Int)<(p:Int):=by omega
      go_wp2
      go_loopw [7] (fun v W=>∃ k:Nat,k≤(packM y (p:Int)).rels.length∧v=.int .i64 k∧Hid (Below W3.heap.size W3 W)) (fun v _=>(packM y (p:Int)).rels.length - (intOf v).toNat)
      case atStart=>exact ⟨0,Nat.zero_le _,rfl,HW4.out⟩
      case round =>
       rename World=>wi
       obtain ⟨k,hk,rfl,HWI⟩:=hrel
       have hk6:(packM y (p:Int)).rels.length≤6:=(HTB.out.pack (p:Int)).2.1
       have HSI:=Lib.hid (size_any tb mb A' y.length c' y (p:Int) wi (HTB.out.kept HWI.out))
       go_wp2_with fail
       refine HSI.out.mono ?_
       rintro e W6 ⟨rfl,hb6⟩
       have HW6:=Lib.hid (HWI.out.trans (hb6.mono HWI.out.size))
       clear hb6 HSI
       by_cases hkl:k<(packM y (p:Int)).rels.length
       ·have HKL:=Lib.hid hkl
        have HRA:=Lib.hid (release_any tb mb A' y.length c' y (p:Int) (k:Int) W6 (HTB.out.kept HW6.out))
        go_wp2_with fail
        refine HRA.out.mono ?_
        rintro e W7 ⟨r,rfl,hrp,hro,hb7⟩
        rw [(relM_in HKL.out).2]
        have HR7:=Lib.hid (rels_in HTB.out (p:Int) k HKL.out hrp)
        have HRO:=Lib.hid hro
        have HW7:=Lib.hid (HW6.out.trans (hb7.mono HW6.out.size))
        clear hrp hro hb7 HRA
        unfold MRel.agg
        go_upto_region 18 with (fail)
        have HAL:Hid (Below W7.heap.size W7 (W7.alloc (.cells #[r.ver.v.a,r.ver.v.b,r.ver.v.c,.slice r.ver.A r.ver.v.pre.length r.ver.c,.slice r.ver.B r.ver.v.build.length r.ver.d,.bool r.yanked,.slice r.N r.needs.length r.nc,.slice r.B r.bans.length r.bc] 46))):=(Below.refl _ _).alloc (Nat.le_refl _) _
        have HRB:Hid (AtV (W7.alloc (.cells #[r.ver.v.a,r.ver.v.b,r.ver.v.c,.slice r.ver.A r.ver.v.pre.length r.ver.c,.slice r.ver.B r.ver.v.build.length r.ver.d,.bool r.yanked,.slice r.N r.needs.length r.nc,.slice r.B r.bans.length r.bc] 46)) W7.heap.size [.int .u64 r.ver.v.a,.int .u64 r.ver.v.b,.int .u64 r.ver.v.c,.slice r.ver.A r.ver.v.pre.length r.ver.c,.slice r.ver.B r.ver.v.build.length r.ver.d,.bool r.yanked,.slice r.N r.needs.length r.nc,.slice r.B r.bans.length r.bc]):=AtV.new W7 _ _
        have HRO8:=Lib.hid (HRO.out.keep (KeepS.of_below HAL.out))
        have HW8:=Lib.hid (HW7.out.trans (HAL.out.mono HW7.out.size))
        obtain ⟨rb,hrb⟩:∃ rb,W7.heap.size=rb:=⟨_,rfl⟩
        rw [hrb] at HRB HRO8 ⊢
        have HRBE:=Lib.hid hrb
        clear hrb HRO HAL
        generalize W7.alloc (.cells #[r.ver.v.a,r.ver.v.b,r.ver.v.c,.slice r.ver.A r.ver.v.pre.length r.ver.c,.slice r.ver.B r.ver.v.build.length r.ver.d,.bool r.yanked,.slice r.N r.needs.length r.nc,.slice r.B r.bans.length r.bc] 46)=W8 at HRB HRO8 HW8 ⊢
        have q0:=HRB.out.at_ 0 _ rfl
        have q1:=HRB.out.at_ 1 _ rfl
        have q2:=HRB.out.at_ 2 _ rfl
        have q3:=HRB.out.at_ 3 _ rfl
        have q4:=HRB.out.at_ 4 _ rfl
        have HRK:=Lib.hid (rank_any tb mb A' y.length c' y (p:Int) r.ver (LtB rb) W8 (HTB.out.kept HW8.out) HRO8.out.ver)
        rw [HR7.out.2.2] at HRK
        unfold MVer.agg at HRK
        go_wp2_with fail
        refine HRK.out.mono ?_
        rintro e W9 ⟨rfl,hb9⟩
        have HRB9:=Lib.hid (HRB.out.kept hb9 HRB.out.lt)
        have HRO9:=Lib.hid (HRO8.out.keep (KeepS.of_below (S:=LtB rb) hb9))
        have HW9:=Lib.hid (HW8.out.trans (hb9.mono HW8.out.size))
        clear hb9 HRK q0 q1 q2 q3 q4 HRB HRO8
        have q0:=HRB9.out.at_ 0 _ rfl
        have q1:=HRB9.out.at_ 1 _ rfl
        have q2:=HRB9.out.at_ 2 _ rfl
        have q3:=HRB9.out.at_ 3 _ rfl
        have q4:=HRB9.out.at_ 4 _ rfl
        have HFT:=Lib.hid HRO9.out.ver.fit
        have HGO:=Lib.hid (refGood_all r.ver.v r.ver.A r.ver.c r.ver.B r.ver.d W9 HRO9.out.ver.pre HRO9.out.ver.build HFT.out.pre HFT.out.build HFT.out.pres HFT.out.builds)
        rw [HR7.out.2.1] at HGO
        go_wp2_with fail
        refine HGO.out.mono ?_
        rintro e W10 ⟨rfl,hb10⟩
        have HRB10:=Lib.hid (HRB9.out.kept hb10 HRB9.out.lt)
        have HRO10:=Lib.hid (HRO9.out.keep (KeepS.of_below (S:=LtB rb) hb10))
        have HW10:=Lib.hid (HW9.out.trans (hb10.mono HW9.out.size))
        clear hb10 HGO q0 q1 q2 q3 q4 HRB9 HRO9
        have HRA2:=Lib.hid (release_any tb mb A' y.length c' y (p:Int) ((k:Int)+1) W10 (HTB.out.kept HW10.out))
        go_wp2_with fail
        refine HRA2.out.mono ?_
        rintro e W11 ⟨r2,rfl,hrp2,hro2,hb11⟩
        have HRO2:=Lib.hid hro2
        have HRP2:=Lib.hid hrp2
        have HRB11:=Lib.hid (HRB10.out.kept hb11 HRB10.out.lt)
        have HRO11:=Lib.hid (HRO10.out.keep (KeepS.of_below (S:=LtB rb) hb11))
        have HW11:=Lib.hid (HW10.out.trans (hb11.mono HW10.out.size))
        clear hrp2 hro2 hb11 HRA2 HRB10 HRO10
        obtain ⟨bl,hbl⟩:∃ bl,relB (packM y (p:Int)).rels ((k:Int)+1)=bl:=⟨_,rfl⟩
        have HBL:=Lib.hid hbl
        rw [hbl]
        clear hbl
        unfold MRel.agg
        go_upto_region 22 with (fail)
        have HAL:Hid (Below W11.heap.size W11 (W11.alloc (.cells #[r2.ver.v.a,r2.ver.v.b,r2.ver.v.c,.slice r2.ver.A r2.ver.v.pre.length r2.ver.c,.slice r2.ver.B r2.ver.v.build.length r2.ver.d,.bool r2.yanked,.slice r2.N r2.needs.length r2.nc,.slice r2.B r2.bans.length r2.bc] 46))):=(Below.refl _ _).alloc (Nat.le_refl _) _
        have HRC:Hid (AtV (W11.alloc (.cells #[r2.ver.v.a,r2.ver.v.b,r2.ver.v.c,.slice r2.ver.A r2.ver.v.pre.length r2.ver.c,.slice r2.ver.B r2.ver.v.build.length r2.ver.d,.bool r2.yanked,.slice r2.N r2.needs.length r2.nc,.slice r2.B r2.bans.length r2.bc] 46)) W11.heap.size [.int .u64 r2.ver.v.a,.int .u64 r2.ver.v.b,.int .u64 r2.ver.v.c,.slice r2.ver.A r2.ver.v.pre.length r2.ver.c,.slice r2.ver.B r2.ver.v.build.length r2.ver.d,.bool r2.yanked,.slice r2.N r2.needs.length r2.nc,.slice r2.B r2.bans.length r2.bc]):=AtV.new W11 _ _
        have HRB12:=Lib.hid (HRB11.out.kept HAL.out HRB11.out.lt)
        have HRO12:=Lib.hid (HRO11.out.keep (KeepS.of_below (S:=LtB rb) HAL.out))
        have HRO22:=Lib.hid (HRO2.out.keep (KeepS.of_below HAL.out))
        have HW12:=Lib.hid (HW11.out.trans (HAL.out.mono HW11.out.size))
        obtain ⟨rc,hrc⟩:∃ rc,W11.heap.size=rc:=⟨_,rfl⟩
        rw [hrc] at HRC HRO22 ⊢
        clear hrc HRO2 HAL HRB11 HRO11
        generalize W11.alloc (.cells #[r2.ver.v.a,r2.ver.v.b,r2.ver.v.c,.slice r2.ver.A r2.ver.v.pre.length r2.ver.c,.slice r2.ver.B r2.ver.v.build.length r2.ver.d,.bool r2.yanked,.slice r2.N r2.needs.length r2.nc,.slice r2.B r2.bans.length r2.bc] 46)=W12 at HRC HRB12 HRO12 HRO22 HW12 ⊢
        cases hbb:bl with
        | false =>
         clear hbb
         go_wp2
         exact ⟨⟨k+1,by omega,by go_num,HW12.out⟩,by simp [intOf]; omega⟩
        | true =>
         have HKK:Hid (k+1<(packM y (p:Int)).rels.length):=by
          have h:=HBL.out
          rw [hbb] at h
          have h2:=of_decide_eq_true h
          unfold Hid
          omega
         clear hbb
         have HNE:Hid (fullV r.ver.v r2.ver.v<0):=by
          have h2:=rels_in HTB.out (p:Int) (k+1) HKK.out (r:=r2) HRP2.out
          unfold Hid
          rw [h2.1,HR7.out.1]
          exact vk_up HTB.out k (k+1) (by omega) HKK.out
         have HFV:=Lib.hid (refFull_all r.ver.v r2.ver.v r.ver.A r.ver.B r2.ver.A r2.ver.B r.ver.c r.ver.d r2.ver.c r2.ver.d W12 HRO12.out.ver.pre HRO12.out.ver.build HRO22.out.ver.pre HRO22.out.ver.build HFT.out.pre HFT.out.build HRO22.out.ver.fit.pre HRO22.out.ver.fit.build HFT.out.pres HFT.out.builds HRO22.out.ver.fit.pres HRO22.out.ver.fit.builds)
         obtain ⟨fv,hfv⟩:∃ fv,fullV r.ver.v r2.ver.v=fv:=⟨_,rfl⟩
         rw [hfv] at HNE HFV
         clear hfv
         have hnn:¬ (0:Int)≤fv:=by have:=HNE.out; omega
         have q0:=HRB12.out.at_ 0 _ rfl
         have q1:=HRB12.out.at_ 1 _ rfl
         have q2:=HRB12.out.at_ 2 _ rfl
         have q3:=HRB12.out.at_ 3 _ rfl
         have q4:=HRB12.out.at_ 4 _ rfl
         have d0:=HRC.out.at_ 0 _ rfl
         have d1:=HRC.out.at_ 1 _ rfl
         have d2:=HRC.out.at_ 2 _ rfl
         have d3:=HRC.out.at_ 3 _ rfl
         have d4:=HRC.out.at_ 4 _ rfl
         go_wp2_with fail
         refine HFV.out.mono ?_
         rintro e W13 ⟨rfl,hb13⟩
         have HW13:=Lib.hid (HW12.out.trans (hb13.mono HW12.out.size))
         clear hb13 q0 q1 q2 q3 q4 d0 d1 d2 d3 d4
         go_wp2
         exact ⟨⟨k+1,by omega,by go_num,HW13.out⟩,by simp [intOf]; omega⟩
       ·obtain rfl:k=(packM y (p:Int)).rels.length:=by omega
        go_wp2
        exact ⟨⟨p+1,by omega,by go_num,HW6.out⟩,by simp [intOf]; omega⟩
    ·obtain rfl:p=y.length:=by omega
     go_wp2
     go_ret
     exact ⟨rfl,HS3.out.bel.trans (HW.out.mono HS3.out.bel.size)⟩
  ·obtain rfl:=h2 hc
   clear h1 h2
   have hnn:(checkF (x.map MPack.p)).isNone=false:=by
    cases hq:checkF (x.map MPack.p) with
    | none=>exact absurd hq hc
    | some q=>rfl
   have HRT:=Lib.hid (right11_any A n c x w.heap.size W3 (HX.out.keep (KeepS.of_below HS3.out.bel)) HS3.out.bel.size OA.out HF.out)
   rw [hnn] at HRT
   clear hc hnn
   have i0:=HS3.out.ix.at_ 0 _ rfl
   go_wp2_with fail
   refine HRT.out.mono ?_
   rintro e W4 ⟨rfl,hb⟩
   have HS4:=Lib.hid (HS3.out.kept hb)
   clear hb
   go_wp2
   go_ret
   exact ⟨rfl,HS4.out.bel⟩
 ·have hzb:(z != 0)=true:=by simpa using hz
  clear hf
  go_wp2
  go_ret
  exact ⟨rfl,HS2.out.bel⟩
end Go.Proofs.YtgakcdcfblgagaaGreatDoor.Rank
