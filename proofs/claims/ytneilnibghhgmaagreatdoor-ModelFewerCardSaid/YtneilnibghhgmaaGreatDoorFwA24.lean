/-
  What the theorem of the last text needs of these: MoCheckAny, MoFewerWalk, MoRight, MoSolv, MoSaysA. Conditions: as each theorem states.
-/
import Derived.Test.YtneilnibghhgmaaGreatDoorFwA1
import Derived.Test.YtneilnibghhgmaaGreatDoorFwA21
import Derived.Test.YtneilnibghhgmaaGreatDoorFwA22
import Derived.Test.YtneilnibghhgmaaGreatDoorFwA23
import Derived.Laws.EntriesVeiled
set_option maxRecDepth 100000
set_option maxHeartbeats 25600000
namespace Go.Proofs.YtneilnibghhgmaaGreatDoor.Model
open Go.RowKit Num Ident Semver Fr
open Range (Rng noRng RV KeepS LtB LenOk goodR wt)
open KR (KRow AtV)
open Name (isName)

theorem chk_made (w:World) (A:Option Addr) (n c:Nat):∃ W,W=(((w.alloc (.cells #[.slice A n c] 24)).alloc (.cells #[.int .i64 (-1),.int .i64 (-1),.int .i64 (-1)] 30)).alloc (.map #[] 0)).alloc (.cells #[.map (some (w.heap.size+1+1))] 69)∧AtV W w.heap.size [.slice A n c]∧AtV W (w.heap.size+1) [.int .i64 (-1),.int .i64 (-1),.int .i64 (-1)]∧SeenAt W (w.heap.size+1+1) []∧AtV W (w.heap.size+1+1+1) [.map (some (w.heap.size+1+1))]∧Below w.heap.size w W:=by
 obtain ⟨V1,hV1⟩:∃ V,V=w.alloc (.cells #[.slice A n c] 24):=⟨_,rfl⟩
 have a1:AtV V1 w.heap.size [.slice A n c]:=by rw [hV1]; exact AtV.new w _ _
 have z1:V1.heap.size=w.heap.size+1:=by rw [hV1]; simp
 have b1:Below w.heap.size w V1:=by rw [hV1]; exact (Below.refl _ _).alloc (Nat.le_refl _) _
 obtain ⟨V2,hV2⟩:∃ V,V=V1.alloc (.cells #[.int .i64 (-1),.int .i64 (-1),.int .i64 (-1)] 30):=⟨_,rfl⟩
 have k2:Below V1.heap.size V1 V2:=by rw [hV2]; exact (Below.refl _ _).alloc (Nat.le_refl _) _
 have a2:AtV V2 (w.heap.size+1) [.int .i64 (-1),.int .i64 (-1),.int .i64 (-1)]:=by rw [hV2,← z1]; exact AtV.new V1 _ _
 have z2:V2.heap.size=w.heap.size+1+1:=by rw [hV2]; simp [z1]
 obtain ⟨V3,hV3⟩:∃ V,V=V2.alloc (.map #[] 0):=⟨_,rfl⟩
 have k3:Below V2.heap.size V2 V3:=by rw [hV3]; exact (Below.refl _ _).alloc (Nat.le_refl _) _
 have a3:SeenAt V3 (w.heap.size+1+1) []:=by rw [hV3,← z2]; exact SeenAt.made V2
 have z3:V3.heap.size=w.heap.size+1+1+1:=by rw [hV3]; simp [z2]
 obtain ⟨V4,hV4⟩:∃ V,V=V3.alloc (.cells #[.map (some (w.heap.size+1+1))] 69):=⟨_,rfl⟩
 have k4:Below V3.heap.size V3 V4:=by rw [hV4]; exact (Below.refl _ _).alloc (Nat.le_refl _) _
 have a4:AtV V4 (w.heap.size+1+1+1) [.map (some (w.heap.size+1+1))]:=by rw [hV4,← z3]; exact AtV.new V3 _ _
 refine ⟨V4,by rw [hV4,hV3,hV2,hV1],((a1.kept k2 (by omega)).kept k3 (by omega)).kept k4 (by omega),(a2.kept k3 (by omega)).kept k4 (by omega),a3.kept k4 (by omega),a4,b1.trans ((k2.trans ((k3.trans (k4.mono (by omega))).mono (by omega))).mono (by omega))⟩
def nms (l:List MPack) (k:Nat):List (List UInt8):=(l.take k).map MPack.name
theorem nms_snoc {l:List MPack} {k:Nat} (h:k<l.length):nms l (k+1)=nms l k ++ [(l.getD k default).name]:=take_map_snoc MPack.name l h
theorem nameB_nms {l:List MPack} {k:Nat} (hk:k<l.length):(l.getD k default).p.name ∈ nms l k↔nameB PPack.name (l.map MPack.p) k=true:=by
 rw [nameB_iff,map_at MPack.p l hk]
 unfold nms
 rw [← List.map_take,List.map_map]
 exact Iff.rfl
theorem chk_first (x:List MPack) (A:Option Addr) (n c:Nat) (B zb:Nat) (w W:World) (hx:PRow w (LtB B) A n x) (hf:FewX x) (ht:Tab w) (hB:B≤zb) (hzb:zb=w.heap.size) (hb:Below w.heap.size w W) (h2:AtV W (zb+1) [.int .i64 (-1),.int .i64 (-1),.int .i64 (-1)]) (h3:SeenAt W (zb+1+1) []) (h4:AtV W (zb+1+1+1) [.map (some (zb+1+1))]) :
  Calls Tryz.prog 25 #[.slice A n c,.func (.func 26) #[] #[.pointer (some ⟨zb+1+1+1,0,none⟩),.pointer (some ⟨zb+1,0,none⟩)]] W fun e w'=>∃ a q1 q2 f:Int,e=.returned (.tuple #[.int .i64 a,.int .i64 f])∧AtV w' (zb+1) [.int .i64 (-1),.int .i64 q1,.int .i64 q2]∧Below w.heap.size w w'∧out4 (checkF (x.map MPack.p))=(a,q1,q2,f):=by
 have hlx:=hx.row.1
 have hfl:=hf.len
 have hrow:∀ W',But (fun b=>b=zb+1+1∨b=zb+1) W W'→PRow W' (LtB B) A n x:=fun W' hw=>(hx.keep (KeepS.of_below hb)).keep (keepS_but hw fun g hg e=>by have hg:g<B:=hg; omega)
 refine (firstPack_any 26 #[.pointer (some ⟨zb+1+1+1,0,none⟩),.pointer (some ⟨zb+1,0,none⟩)] (enters_of Tryz.func26 (by kernel_rfl) rfl) A n c x
  (fun k=>(packK (nms x k) (x.getD k default).p).2.2)
  (fun k W'=>SeenAt W' (zb+1+1) (nms x k)∧AtV W' (zb+1) [.int .i64 (-1),.int .i64 (-1),.int .i64 (-1)]∧But (fun b=>b=zb+1+1∨b=zb+1) W W')
  (fun k W'=>AtV W' (zb+1) [.int .i64 (-1),.int .i64 (packK (nms x k) (x.getD k default).p).1,.int .i64 (packK (nms x k) (x.getD k default).p).2.1]∧But (fun b=>b=zb+1+1∨b=zb+1) W W') (LtB B) W (by unfold maxLen; omega)
  (fun k W' _ hI=>hrow W' hI.2.2) (fun k W' hk hI=>?_) ⟨h3,h2,But.refl _ _⟩).mono ?_
 ·have hkl:k<x.length:=by omega
  have hm:=hx.row.mem hk
  refine (pack1_any (x.getD k default) (zb+1+1+1) (zb+1) (zb+1+1) (nms x k) B W' ((hrow W' hI.2.2).ok _ hm) (fun r hr=>hf.rel _ hm r hr) (hf.pack _ hm).2 (h4.but hI.2.2 (by omega)) hI.2.1 hI.1 (by unfold nms; simp; omega) ⟨by omega,by omega,by omega⟩ ⟨by omega,by omega⟩ (by have:=hb.size; have:=hI.2.2.size; omega) w ht (hb.trans (hI.2.2.below (B:=w.heap.size) (fun k e=>by omega) hb.size)) ⟨by omega,by omega⟩).mono ?_
  rintro e w' ⟨ho,hd,hs,hbt⟩
  refine ⟨ho,fun h0=>⟨?_,?_,hI.2.2.then_ hbt⟩,fun _=>⟨hd,hI.2.2.then_ hbt⟩⟩
  ·rw [nms_snoc hkl]; exact hs h0
  ·have:=(packK_zero h0).1
   rw [this] at hd; exact hd
 ·intro e w' hp2
  have rel:∀ k,k<n→packF (x.map MPack.p) k ((x.map MPack.p).getD k default)=if (packK (nms x k) (x.getD k default).p).2.2=0 then none else some (packK (nms x k) (x.getD k default).p):=fun k hk=>by
   rw [map_at MPack.p x (by omega)]
   exact packK_some (nameB_nms (by omega))
  have len:(x.map MPack.p).length=n:=by rw [List.length_map]; exact hlx
  have hfull:checkF (x.map MPack.p)=(firstG (packF (x.map MPack.p)) 0 (x.map MPack.p)).map fun q=>((q.1:Int),q.2.1,q.2.2.1,q.2.2.2):=by unfold checkF; rw [if_neg (by omega)]
  rw [hfull]
  rcases hp2 with ⟨k,hk,ha,hne,he,hd,hbt⟩ | ⟨ha,he,_,hd,hbt⟩
  ·refine ⟨_,_,_,_,he,hd,hb.trans (hbt.below (B:=w.heap.size) (fun k e=>by omega) hb.size),?_⟩
   have e1:=firstG_stop (packF (x.map MPack.p)) (x.map MPack.p) 0 k _ (by omega) (fun j hj=>by
    rw [Nat.zero_add,rel j (by omega),if_pos (ha j hj)]) (by
    rw [Nat.zero_add,rel k hk,if_neg hne])
   rw [e1,Nat.zero_add]; rfl
  ·refine ⟨_,_,_,_,he,hd,hb.trans (hbt.below (B:=w.heap.size) (fun k e=>by omega) hb.size),?_⟩
   have e1:=firstG_none (packF (x.map MPack.p)) (x.map MPack.p) 0 (fun j hj=>by
    rw [Nat.zero_add,rel j (by omega),if_pos (ha j (by omega))])
   rw [e1]; rfl
theorem check_any (A:Option Addr) (n c:Nat) (x:List MPack) (B:Nat) (w:World) (hx:PRow w (LtB B) A n x) (hB:B≤w.heap.size) (hf:FewX x) (ht:Tab w) :
  Calls Tryz.prog 9 #[.agg #[.slice A n c]] w fun e w'=>e=.returned (checkV (checkF (x.map MPack.p)))∧Below w.heap.size w w':=by
 obtain ⟨W,hW,h1,h2,h3,h4,hb⟩:=chk_made w A n c
 obtain ⟨zb,hzb⟩:∃ zb,w.heap.size=zb:=⟨_,rfl⟩
 rw [hzb] at hW h1 h2 h3 h4
 have hfst:=chk_first x A n c B zb w W hx hf ht (by omega) hzb.symm hb h2 h3 h4
 have H1:=Lib.hid h1
 have HPB:=Lib.hid hzb
 have hn6:n≤6:=by have:=hx.row.1; have:=hf.len; omega
 clear h1 h2 h3 h4 hb hx hf ht
 have hmm:=@run_makeMap Tryz.prog
 go_enter Tryz.func9,Tryz.ntmps9
 go_upto_region 5 with (fail)
 rw [← hW]
 clear hW hzb hmm hB
 have c0:=H1.out.at_ 0 _ rfl
 go_wp2_with fail
 refine hfst.mono ?_
 rintro e W2 ⟨a,q1,q2,f,rfl,hd,hb,hq⟩
 clear hfst c0
 have HQ:=Lib.hid hq
 have HB2:=Lib.hid hb
 have HD2:=Lib.hid hd
 clear hq hb hd
 have d0:=HD2.out.at_ 0 _ rfl
 have d1:=HD2.out.at_ 1 _ rfl
 have d2:=HD2.out.at_ 2 _ rfl
 have hdl:zb+1<W2.heap.size:=HD2.out.lt
 have hdf:=HD2.out.fr
 go_upto_region 6 with (fail)
 have HD3:Hid (AtV (W2.setCell ⟨zb+1,0,none⟩ (.int .i64 a)) (zb+1) [.int .i64 a,.int .i64 q1,.int .i64 q2]):=HD2.out.set 0 (.int .i64 a) (by simp)
 have HB3:Hid (Below w.heap.size w (W2.setCell ⟨zb+1,0,none⟩ (.int .i64 a))):=HB2.out.setCell (p:=⟨zb+1,0,none⟩) (by have:=HPB.out; show w.heap.size≤zb+1; omega) _
 clear d0 d1 d2 hdl hdf
 generalize W2.setCell ⟨zb+1,0,none⟩ (.int .i64 a)=W3 at HD3 HB3 ⊢
 have d0:=HD3.out.at_ 0 _ rfl
 have d1:=HD3.out.at_ 1 _ rfl
 have d2:=HD3.out.at_ 2 _ rfl
 have hdl:zb+1<W3.heap.size:=HD3.out.lt
 have hdf:=HD3.out.fr
 go_wp2
 have hle:w.heap.size≤zb+1:=by have:=HPB.out; omega
 refine bodyPost_ret (v:=.tuple #[.agg #[.int .i64 a,.int .i64 q1,.int .i64 q2],.int .i64 f]) (by simp [results,Tryz.results9,go_sem,d0,d1,d2]) rfl ⟨by unfold checkV; rw [HQ.out],((HB3.out.setCell (p:=⟨zb+1,0,none⟩) hle _).setCell (p:=⟨zb+1,1,none⟩) hle _).setCell (p:=⟨zb+1,2,none⟩) hle _⟩
end Go.Proofs.YtneilnibghhgmaaGreatDoor.Model
namespace Go.Proofs.YtneilnibghhgmaaGreatDoor.Model
open Go.RowKit Num Ident Semver
open Range (Rng noRng RV KeepS LtB LenOk goodR wt)
open KR (KRow AtV)

theorem own_cap {w:World} {base:Nat} {e:TypeId} {k:Nat} {A:Option Addr} {n c m:Nat} {xs:List Value} (h:w.ownsRow base e k (.slice A n c) m xs):c≤maxLen:=by
 rcases h.2 with ⟨h1,_⟩ | ⟨g,cap,cur,h1,_,_,_,hcm,_⟩
 ·injection h1 with _ _ h1; rw [h1]; exact Nat.zero_le _
 ·injection h1 with _ _ h1; rw [h1]; exact hcm
def fewOf (l:List MDep) (k p:Nat):List MDep:=l.take k ++ l.drop p
theorem few_mem {l:List MDep} {k p:Nat}:∀ d ∈ fewOf l k p,d ∈ l:=fun d hd=>by
 rcases List.mem_append.1 hd with h | h
 ·exact List.mem_of_mem_take h
 ·exact List.mem_of_mem_drop h
theorem few_few {l:List MDep} {k p:Nat} (hp:k≤p) (h:FewD l):FewD (fewOf l k p) :=
 ⟨by unfold fewOf; rw [List.length_append,List.length_take,List.length_drop]; have:=h.1; omega,fun d hd=>h.2 d (few_mem d hd)⟩
theorem modelFewer_of (S:SaysA) (A:Option Addr) (n c:Nat) (x:List MPack) (RA:Option Addr) (rn rc:Nat) (roots:List MDep) (SA:Option Addr) (m sc:Nat) (s:List MPin) (u:Int) (w:World) (hx:PRow w (LtB w.heap.size) A n x) (hr:DRow w (LtB w.heap.size) RA rn roots) (hs:SPRow w (LtB w.heap.size) SA m s) (oa:SlOk A n c) (ob:SlOk RA rn rc) (oc:SlOk SA m sc) (u0:0≤u) (u1:u≤255) (ht:Tab w) :
  Calls Tryz.prog 6 #[.agg #[.slice A n c],.slice RA rn rc,.slice SA m sc,.int .u8 u] w fun e w'=>e=.returned (.bool true)∧Below w.heap.size w w':=by
 have HS:=Lib.hid S
 have HT:=Lib.hid ht
 clear ht
 have HX:=Lib.hid hx
 have HR:=Lib.hid hr
 have HP:=Lib.hid hs
 have OA:=Lib.hid oa
 have OB:=Lib.hid ob
 have OC:=Lib.hid oc
 clear S hx hr hs oa ob oc
 obtain ⟨W0,hW,hav,hb0⟩:∃ W,W=w.alloc (.cells #[.slice A n c] 24)∧AtV W w.heap.size [.slice A n c]∧Below w.heap.size w W:=⟨_,rfl,AtV.new w _ _,(Below.refl _ _).alloc (Nat.le_refl _) _⟩
 have HS0:Hid (SolAt w w.heap.size A n c W0):=⟨hav,hb0⟩
 clear hav hb0
 go_enter Tryz.func6,Tryz.ntmps6
 go_upto_region 1 with (fail)
 rw [← hW]
 clear hW
 obtain ⟨ib,hib⟩:∃ ib,w.heap.size=ib:=⟨_,rfl⟩
 rw [hib] at HS0 ⊢
 have HIB:=Lib.hid hib
 clear hib
 go_wp2_with fail
 refine (awake_of HS.out _ (HT.out.kept HS0.out.bel)).mono ?_
 rintro e W1 ⟨rfl,hb⟩
 have HS1:=Lib.hid (HS0.out.kept hb)
 clear hb HS0
 have i0:=HS1.out.ix.at_ 0 _ rfl
 go_wp2_with fail
 refine (lawFew_any A n c x RA rn rc roots SA m sc s w.heap.size W1 (HX.out.keep (KeepS.of_below HS1.out.bel)) (HR.out.keep (KeepS.of_below HS1.out.bel)) (HP.out.keep (KeepS.of_below HS1.out.bel)) HS1.out.bel.size OA.out.len OB.out.len OC.out.len).mono ?_
 rintro e W2 ⟨z,rfl,hf,hb⟩
 have HS2:=Lib.hid (HS1.out.kept hb)
 clear hb HS1 i0
 by_cases hz:z=0
 ·have HF:=Lib.hid (hf hz)
  have hzb:(z != 0)=false:=by rw [hz]; rfl
  clear hz hf
  have hf6:=HF.out.2.1.1
  have HLR:=Lib.hid HR.out.row.1
  rw [HLR.out] at hf6
  have hm0:0≤u.tmod ((rn:Int)+1):=Int.tmod_nonneg _ u0
  have hm1:u.tmod ((rn:Int)+1)<(rn:Int)+1:=Int.tmod_lt_of_pos _ (by omega)
  have hnz:((rn:Int)+1 == 0)=false:=by simp; omega
  obtain ⟨k,hk⟩:∃ k:Nat,u.tmod ((rn:Int)+1)=(k:Int):=⟨(u.tmod ((rn:Int)+1)).toNat,by omega⟩
  have hkn:k≤rn:=by omega
  have hwu:IntKind.i64.wrap u=u:=by rw [IntKind.wrap_i64]; omega
  go_upto_region 6 with (fail)
  obtain ⟨p,hkp,hpn,hmin⟩:∃ p:Nat,k≤p∧p≤rn∧min ((k:Int)+1) (rn:Int)=(p:Int):=⟨min (k+1) rn,by omega,by omega,by omega⟩
  have hwk:IntKind.i64.wrap ((k:Int)+1)=(k:Int)+1:=by rw [IntKind.wrap_i64]; omega
  have hrc:rn≤rc:=OB.out.le
  have hrm:rc≤9223372036854775807:=OB.out.max
  have hkc:¬ rc<k:=by omega
  have hpc:¬ rn<p:=by omega
  have hk9:k<100:=by omega
  obtain ⟨RB,hRB⟩:∃ RB,(if rc=p then RA else RA.map fun a=>a.add (p * 8))=RB:=⟨_,rfl⟩
  have H0:Hid (Below W2.heap.size W2 W2.drew):=(Below.refl _ _).drew
  refine wp_region_held_drew (S:=fun w'=>Below W2.heap.size W2 w') (by kernel_rfl) H0.out (fun hHeld=>?_)
  generalize W2.drew=W3 at H0 hHeld ⊢
  refine tk 1 rfl (.slice RA rn rc) ?_
  refine tk 2 rfl (.int .i64 k) ?_
  refine tk 3 rfl (.slice RA k rc) ?_
  refine tk 5 rfl (.slice RA rn rc) ?_
  refine tk 6 rfl (.int .i64 k) ?_
  refine tk 7 rfl (.int .i64 ((k:Int)+1)) ?_
  refine tk 8 rfl (.slice RA rn rc) ?_
  refine tk 9 rfl (.int .i64 rn) ?_
  refine tk 10 rfl (.int .i64 p) ?_
  refine tk 11 rfl (.slice RB (rn - p) (rc - p)) ?_ (hv:=fun w' hS'=>by go_simp; try rw [← hRB])
  refine cl 0 rfl fun K hK=>?_
  go_simp
  have H2:Hid (Below W2.heap.size W2 (W3.alloc (.cells #[] 61))):=H0.out.alloc H0.out.size _
  have O2:Hid (World.ownsRow (W3.alloc (.cells #[] 61)) W2.heap.size 61 8 (.slice (some ⟨W3.heap.size,0,none⟩) 0 0) 0 (([]:List MDep).flatMap MDep.vals)):=World.ownsRow_made (base:=W2.heap.size) (e:=61) (size:=8) W3 #[] 0 H0.out.size (by unfold maxLen; omega) rfl
  refine hK.out _ _ H2.out (fun hHeld2=>?_)
  clear hK K hHeld2
  try simp only [Act.put,p1,p2,p3]
  obtain ⟨g,hg⟩:∃ g,W3.heap.size=g:=⟨_,rfl⟩
  rw [hg] at O2 ⊢
  clear hg
  generalize W3.alloc (.cells #[] 61)=W4 at H2 O2 ⊢
  have HK4:Hid (KeepS (LtB w.heap.size) w W4):=KeepS.of_below (HS2.out.bel.trans (H2.out.mono HS2.out.bel.size))
  have HRW:Hid (KRow MDep.vals 8 W4 (LtB w.heap.size) RA rn roots):=HR.out.row.keep HK4.out
  have HRA:Hid (KRow MDep.vals 8 W4 (LtB w.heap.size) RA k (roots.take k)):=by
   have q:=HRW.out.piece (A':=RA) 0 k (by omega) (fun h0 b o e=>by rw [e]; simp)
   unfold Hid
   simpa using q
  refine cl 4 rfl fun K hK=>?_
  obtain ⟨v5,W5,hrun,ho,hgr⟩:=KR.run_append_k Tryz.underlying25 depInfo rfl dep_len (by omega) dep_one W4 25 W2.heap.size (.slice (some ⟨g,0,none⟩) 0 0) 0 [] O2.out RA k rc (roots.take k) HRA.out OB.out.nil (by unfold maxLen; omega) (by omega) H2.out.size
  have H5:Hid (Below W2.heap.size W2 W5):=H2.out.grown hgr H2.out.size (fun k hk=>(O2.out.lt k hk).1)
  have O5:=Lib.hid ho
  rw [Nat.zero_add,List.nil_append] at O5
  refine KR.region_append (by rfl) _ _ rfl rfl rfl hrun ?_
  clear hrun ho hgr
  refine hK.out _ _ H5.out (fun hHeld3=>?_)
  clear hK K hHeld3
  try simp only [Act.put,p1,p2,p3]
  have HK5:Hid (KeepS (LtB w.heap.size) w W5):=KeepS.of_below (HS2.out.bel.trans (H5.out.mono HS2.out.bel.size))
  have HRB:Hid (KRow MDep.vals 8 W5 (LtB w.heap.size) RB (rn - p) (roots.drop p)):=by
   have q:=(HR.out.row.keep HK5.out).piece (A':=RB) p (rn - p) (by omega) (fun h0 b o e=>by rw [← hRB,if_neg (by omega),e,Option.map_some,Num.add_none])
   rwa [List.take_of_length_le (by rw [List.length_drop,HLR.out]; exact Nat.le_refl _)] at q
  have hnilB:RB=none→rc - p=0:=fun e=>by
   rw [← hRB] at e
   by_cases hc:rc=p
   ·omega
   ·rw [if_neg hc] at e
    cases RA with
    | none=>have:=OB.out.nil rfl; omega
    | some ad=>cases e
  refine cl 12 rfl fun K hK=>?_
  obtain ⟨v6,W6,hrun,ho,hgr⟩:=KR.run_append_k Tryz.underlying25 depInfo rfl dep_len (by omega) dep_one W5 25 W2.heap.size v5 k (roots.take k) O5.out RB (rn - p) (rc - p) (roots.drop p) HRB.out hnilB (by unfold maxLen; omega) (by omega) H5.out.size
  have H6:Hid (Below W2.heap.size W2 W6):=H5.out.grown hgr H5.out.size (fun k hk=>(O5.out.lt k hk).1)
  have hfl:(fewOf roots k p).length=k+(rn - p):=by unfold fewOf; rw [List.length_append,List.length_take,List.length_drop,HLR.out]; omega
  have O6:Hid (World.ownsRow W6 W2.heap.size 61 8 v6 (fewOf roots k p).length ((fewOf roots k p).flatMap MDep.vals)):=by unfold Hid; rw [hfl]; exact ho
  refine KR.region_append (by rfl) _ _ rfl rfl rfl hrun ?_
  clear hrun ho hgr
  refine hK.out _ _ H6.out (fun hHeld4=>?_)
  clear hK K hHeld4
  try simp only [Act.put,p1,p2,p3]
  obtain ⟨A7,c7,hv7,k1,k2,k3⟩:=KRow.of_own (S:=LtB W6.heap.size) dep_len O6.out rfl (fun g _ h=>h)
  subst hv7
  have HK6:Hid (KeepS (LtB w.heap.size) w W6):=KeepS.of_below (HS2.out.bel.trans (H6.out.mono HS2.out.bel.size))
  have HD6:Hid (DRow W6 (LtB W6.heap.size) A7 (fewOf roots k p).length (fewOf roots k p)):=⟨k3,fun d hd=>((HR.out.ok d (few_mem d hd)).keep HK6.out).mono fun b g _=>Nat.lt_of_lt_of_le g (Nat.le_trans HS2.out.bel.size H6.out.size)⟩
  have HC6:Hid ((fewOf roots k p).length≤c7∧(A7=none→c7=0)):=⟨k1,k2⟩
  have HM6:Hid (c7≤maxLen):=own_cap O6.out
  have HFE:=Lib.hid (few_few hkp HF.out.2.1 (k:=k))
  obtain ⟨few,hfew⟩:∃ few,fewOf roots k p=few:=⟨_,rfl⟩
  have HMM:Hid (∀ d ∈ few,d ∈ roots):=by rw [← hfew]; exact few_mem
  rw [hfew] at HD6 HC6 HFE ⊢
  have HFW:=Lib.hid hfew
  clear hfew k1 k2 k3 O6 O5 O2 hfl
  refine tk 13 rfl (.slice A7 few.length c7) ?_
  refine wpAnyH_done (by kernel_rfl) ?_ _
  have HS6:=Lib.hid (HS2.out.kept H6.out)
  have OD:Hid (SlOk A7 few.length c7):=⟨HC6.out.1,HM6.out,HC6.out.2⟩
  obtain ⟨b,hbq⟩:∃ b,solvesB (x.map MPack.p) (roots.map MDep.p) (s.map MPin.p)=b:=⟨_,rfl⟩
  have HQ:=Lib.hid hbq
  clear hbq
  clear hk9 hkc hpc hrc hrm hmin hwk hwu hnz hm0 hm1 hRB hk
  have i0:=HS6.out.ix.at_ 0 _ rfl
  go_wp2_with fail
  refine (HS.out.solves A n c x RA rn rc roots SA m sc s w.heap.size W6 (HX.out.keep (KeepS.of_below HS6.out.bel)) (HR.out.keep (KeepS.of_below HS6.out.bel)) (HP.out.keep (KeepS.of_below HS6.out.bel)) HS6.out.bel.size OA.out OB.out OC.out HF.out.1 HF.out.2.1 HF.out.2.2 (HT.out.kept HS6.out.bel)).mono ?_
  rw [HQ.out]
  rintro e W7 ⟨rfl,hb⟩
  have HS7:=Lib.hid (HS6.out.kept hb)
  have HD7:=Lib.hid (HD6.out.keep (KeepS.of_below (S:=LtB W6.heap.size) hb))
  have HZ7:Hid (W6.heap.size≤W7.heap.size):=hb.size
  clear hb HS6 HD6 i0
  have i0:=HS7.out.ix.at_ 0 _ rfl
  cases b with
  | false =>
   go_wp2_with fail
   refine (HS.out.solves A n c x none 0 0 [] SA m sc s w.heap.size W7 (HX.out.keep (KeepS.of_below HS7.out.bel)) (DRow.none_ _ _) (HP.out.keep (KeepS.of_below HS7.out.bel)) HS7.out.bel.size OA.out SlOk.zero OC.out HF.out.1 fewD_none HF.out.2.2 (HT.out.kept HS7.out.bel)).mono ?_
   obtain ⟨b2,hb2⟩:∃ b,solvesB (x.map MPack.p) (([]:List MDep).map MDep.p) (s.map MPin.p)=b:=⟨_,rfl⟩
   rw [hb2]
   clear hb2
   rintro e W8 ⟨rfl,hb⟩
   have HS8:=Lib.hid (HS7.out.kept hb)
   clear hb HS7 i0
   have i0:=HS8.out.ix.at_ 0 _ rfl
   cases b2 with
   | true =>
    go_wp2
    go_ret
    exact ⟨rfl,HS8.out.bel⟩
   | false =>
    go_wp2_with fail
    refine (HS.out.solves A n c x RA rn rc roots SA m sc s w.heap.size W8 (HX.out.keep (KeepS.of_below HS8.out.bel)) (HR.out.keep (KeepS.of_below HS8.out.bel)) (HP.out.keep (KeepS.of_below HS8.out.bel)) HS8.out.bel.size OA.out OB.out OC.out HF.out.1 HF.out.2.1 HF.out.2.2 (HT.out.kept HS8.out.bel)).mono ?_
    rw [HQ.out]
    rintro e W9 ⟨rfl,hb⟩
    have HS9:=Lib.hid (HS8.out.kept hb)
    clear hb HS8 i0
    go_wp2
    go_ret
    exact ⟨rfl,HS9.out.bel⟩
  | true =>
   have HQF:Hid (solvesB (x.map MPack.p) (few.map MDep.p) (s.map MPin.p)=true):=solves_fewer (fun d hd=>by
    obtain ⟨d0,h0,rfl⟩:=List.mem_map.1 hd
    exact List.mem_map.2 ⟨d0,HMM.out d0 h0,rfl⟩) HQ.out
   have HQ0:Hid (solvesB (x.map MPack.p) (([]:List MDep).map MDep.p) (s.map MPin.p)=true):=solves_fewer (fun d hd=>by cases hd) HQ.out
   go_wp2_with fail
   refine (HS.out.solves A n c x A7 few.length c7 few SA m sc s W6.heap.size W7 ((HX.out.keep (KeepS.of_below HS7.out.bel)).mono fun b g _=>Nat.lt_of_lt_of_le g (Nat.le_trans HS2.out.bel.size H6.out.size)) HD7.out ((HP.out.keep (KeepS.of_below HS7.out.bel)).mono fun b g _=>Nat.lt_of_lt_of_le g (Nat.le_trans HS2.out.bel.size H6.out.size)) HZ7.out OA.out OD.out OC.out HF.out.1 HFE.out HF.out.2.2 (HT.out.kept HS7.out.bel)).mono ?_
   rw [HQF.out]
   rintro e W8 ⟨rfl,hb⟩
   have HS8:=Lib.hid (HS7.out.kept hb)
   clear hb HS7 i0
   have i0:=HS8.out.ix.at_ 0 _ rfl
   go_wp2_with fail
   refine (HS.out.solves A n c x none 0 0 [] SA m sc s w.heap.size W8 (HX.out.keep (KeepS.of_below HS8.out.bel)) (DRow.none_ _ _) (HP.out.keep (KeepS.of_below HS8.out.bel)) HS8.out.bel.size OA.out SlOk.zero OC.out HF.out.1 fewD_none HF.out.2.2 (HT.out.kept HS8.out.bel)).mono ?_
   rw [HQ0.out]
   rintro e W9 ⟨rfl,hb⟩
   have HS9:=Lib.hid (HS8.out.kept hb)
   clear hb HS8 i0
   go_wp2
   go_ret
   exact ⟨rfl,HS9.out.bel⟩
 ·have hzb:(z != 0)=true:=by simpa using hz
  clear hz hf
  go_wp2
  go_ret
  exact ⟨rfl,HS2.out.bel⟩
end Go.Proofs.YtneilnibghhgmaaGreatDoor.Model
namespace Go.Proofs.YtneilnibghhgmaaGreatDoor.Model
open Go.RowKit Num Ident Semver Fr
open Range (Rng noRng RV KeepS LtB LenOk goodR wt)
open KR (KRow AtV)
open Name (isName)
open Nrm (hasR)
theorem check_ne {x:List PPack} {q:Int × Int × Int × Int} (h:checkF x=some q):q.2.2.2≠0:=by
 unfold checkF at h
 split at h
 ·injection h with h; subst h; decide
 ·obtain ⟨p,hp,rfl⟩:=Option.map_eq_some_iff.1 h
  obtain ⟨k,y,hy⟩:=firstG_at _ _ _ _ hp
  unfold packF at hy
  split at hy
  ·injection hy with hy; rw [← hy]; decide
  ·split at hy
   ·injection hy with hy; rw [← hy]; decide
   ·obtain ⟨r,hr,e⟩:=Option.map_eq_some_iff.1 hy
    obtain ⟨k2,z,hz⟩:=firstG_at _ _ _ _ hr
    rw [← e]
    exact relF_ne hz
theorem check_e {x:List PPack}:((out4 (checkF x)).2.2.2 == 0)=(checkF x).isNone:=by
 cases h:checkF x with
 | none=>rfl
 | some q=>have:=check_ne h; show (q.2.2.2 == 0)=false; simpa using this
theorem roots_e {l:List PDep}:((out2 (rootsF l)).2 == 0)=(rootsF l).isNone:=by
 cases h:rootsF l with
 | none=>rfl
 | some q=>have:=rootsF_ne h; show (q.2 == 0)=false; simpa using this
theorem pins_e {l:List PPin}:((out2 (pinsF l)).2 == 0)=(pinsF l).isNone:=by
 cases h:pinsF l with
 | none=>rfl
 | some q=>have:=(firstE_some (g:=fun k p=>pinE l k p) h).1; show (q.2 == 0)=false; simpa using this
theorem right_any (A:Option Addr) (n c:Nat) (x:List MPack) (RA:Option Addr) (rn rc:Nat) (roots:List MDep) (SA:Option Addr) (m sc:Nat) (s:List MPin) (B:Nat) (w:World) (hx:PRow w (LtB B) A n x) (hr:DRow w (LtB B) RA rn roots) (hs:SPRow w (LtB B) SA m s) (hB:B≤w.heap.size) (hrn:rn≤maxLen) (hm:m≤1000) (hf:FewX x) (ht:Tab w) :
  Calls Tryz.prog 41 #[.agg #[.slice A n c],.slice RA rn rc,.slice SA m sc] w fun e w'=>e=.returned (.bool ((checkF (x.map MPack.p)).isNone && ((rootsF (roots.map MDep.p)).isNone && (pinsF (s.map MPin.p)).isNone)))∧Below w.heap.size w w':=by
 have HE:Hid (((out4 (checkF (x.map MPack.p))).2.2.2 == 0 && ((out2 (rootsF (roots.map MDep.p))).2 == 0 && (out2 (pinsF (s.map MPin.p))).2 == 0))=((checkF (x.map MPack.p)).isNone && ((rootsF (roots.map MDep.p)).isNone && (pinsF (s.map MPin.p)).isNone))):=by unfold Hid; rw [check_e,roots_e,pins_e]
 have HR:=Lib.hid hr
 have HS:=Lib.hid hs
 obtain ⟨W0,hW,hav,hb0⟩:∃ W,W=w.alloc (.cells #[.slice A n c] 24)∧AtV W w.heap.size [.slice A n c]∧Below w.heap.size w W:=⟨_,rfl,AtV.new w _ _,(Below.refl _ _).alloc (Nat.le_refl _) _⟩
 have HAV:=Lib.hid hav
 have HB0:=Lib.hid hb0
 have hck:=check_any A n c x B W0 (hx.keep (KeepS.of_below hb0)) (Nat.le_trans hB hb0.size) hf (ht.kept hb0)
 clear hav hb0 hx hr hs hf ht
 obtain ⟨bd,hbd⟩:∃ bd,w.heap.size=bd:=⟨_,rfl⟩
 go_enter Tryz.func41,Tryz.ntmps41
 go_upto_region 1 with (fail)
 rw [← hW]
 rw [hbd] at HAV
 clear hW
 have HBD:=Lib.hid hbd
 clear hbd
 have i0:=HAV.out.at_ 0 _ rfl
 go_wp2_with fail
 refine hck.mono ?_
 rintro e W1 ⟨rfl,hb⟩
 have HB1:=Lib.hid (HB0.out.trans (hb.mono HB0.out.size))
 clear hb i0 hck
 obtain ⟨⟨q1,q2,q3,q4⟩,hq⟩:∃ q,out4 (checkF (x.map MPack.p))=q:=⟨_,rfl⟩
 unfold checkV
 rw [hq] at HE ⊢
 clear hq
 go_upto_region 2 with (fail)
 have HB2:Hid (Below w.heap.size w (W1.alloc (.cells #[.int .i64 q1,.int .i64 q2,.int .i64 q3] 30))):=HB1.out.alloc HB1.out.size _
 generalize W1.alloc (.cells #[.int .i64 q1,.int .i64 q2,.int .i64 q3] 30)=W2 at HB2 ⊢
 go_wp2_with fail
 refine (roots_any RA rn rc roots B _ (HR.out.keep (KeepS.of_below HB2.out)) (Nat.le_trans hB HB2.out.size) hrn).mono ?_
 rintro e W3 ⟨rfl,hb⟩
 have HB3:=Lib.hid (HB2.out.trans (hb.mono HB2.out.size))
 clear hb
 obtain ⟨⟨r1,r2⟩,hq⟩:∃ q,out2 (rootsF (roots.map MDep.p))=q:=⟨_,rfl⟩
 unfold out2V
 rw [hq] at HE ⊢
 clear hq
 go_wp2_with fail
 refine (pins_any SA m sc s B _ (HS.out.keep (KeepS.of_below HB3.out)) (Nat.le_trans hB HB3.out.size) hm).mono ?_
 rintro e W4 ⟨rfl,hb⟩
 have HB4:=Lib.hid (HB3.out.trans (hb.mono HB3.out.size))
 clear hb
 obtain ⟨⟨p1,p2⟩,hq⟩:∃ q,out2 (pinsF (s.map MPin.p))=q:=⟨_,rfl⟩
 unfold out2V
 rw [hq] at HE ⊢
 clear hq
 by_cases h1:q4=0
 ·by_cases h2:r2=0
  ·by_cases h3:p2=0
   ·have HEQ:=Lib.hid (HE.out.symm.trans (by simp [h1,h2,h3]:_=true))
    go_wp2
    go_ret
    exact ⟨by rw [HEQ.out]; rfl,HB4.out⟩
   ·have HEQ:=Lib.hid (HE.out.symm.trans (by simp [h3]:_=false))
    have he3:(p2 == 0)=false:=by simpa using h3
    go_wp2
    go_ret
    exact ⟨by rw [HEQ.out]; rfl,HB4.out⟩
  ·have HEQ:=Lib.hid (HE.out.symm.trans (by simp [h2]:_=false))
   have he2:(r2 == 0)=false:=by simpa using h2
   go_wp2
   go_ret
   exact ⟨by rw [HEQ.out]; rfl,HB4.out⟩
 ·have HEQ:=Lib.hid (HE.out.symm.trans (by simp [h1]:_=false))
  have he1:(q4 == 0)=false:=by simpa using h1
  go_wp2
  go_ret
  exact ⟨by rw [HEQ.out]; rfl,HB4.out⟩
theorem rising_of (s:List MPin):chainB (fun a b=>decide (0≤Lib.compareBytes b.name a.name)) s=risingB (s.map MPin.p):=by
 have hc:∀ (f:PPin→PPin→Bool) (g:MPin→MPin→Bool) (h:∀ a b,g a b=f a.p b.p) (l:List MPin),chainB g l=chainB f (l.map MPin.p):=fun f g h l=>by
  induction l with
  | nil=>rfl
  | cons a l ih =>
   cases l with
   | nil=>rfl
   | cons b l =>
    show (g a b && chainB g (b :: l))=(f a.p b.p && chainB f ((b :: l).map MPin.p))
    rw [h,ih]
 refine hc _ _ (fun a b=>?_) s
 show decide (0≤Lib.compareBytes b.name a.name)=decide (¬ b.name<a.name)
 have:=cmp_less b.name a.name
 by_cases h:b.name<a.name
 ·rw [decide_eq_false (by have:=this.2 h; omega),decide_eq_false (fun q=>q h)]
 ·rw [decide_eq_true (by have:¬ Lib.compareBytes b.name a.name<0:=fun q=>h (this.1 q); omega),decide_eq_true h]
theorem rising_any (SA:Option Addr) (m sc:Nat) (s:List MPin) (S:Nat→Prop) (w:World) (hs:SPRow w S SA m s) (hm:m≤1000) :
  Calls Tryz.prog 42 #[.slice SA m sc] w fun e w'=>e=.returned (.bool (risingB (s.map MPin.p)))∧Below w.heap.size w w':=by
 have hso:=sortedPin_any SA m sc s 82 #[] (enters_of Tryz.func82 (by kernel_rfl) rfl) (fun x y=>Lib.compareBytes x.name y.name) S w hs.row (by omega) (fun W x y _ _ _=>(namesPin_any x y W).mono fun e w' ⟨he,hb⟩=>⟨he,hb.toBelow⟩)
 rw [rising_of] at hso
 clear hs
 go_enter Tryz.func42,Tryz.ntmps42
 go_wp2_with fail
 refine hso.mono ?_
 rintro e w' ⟨rfl,hb⟩
 have HB:=Lib.hid hb
 clear hb hso
 obtain ⟨q,hq⟩:∃ q,risingB (s.map MPin.p)=q:=⟨_,rfl⟩
 have HQ:=Lib.hid hq
 rw [hq]
 clear hq
 go_wp2
 go_ret
 exact ⟨by rw [HQ.out]; rfl,HB.out⟩
end Go.Proofs.YtneilnibghhgmaaGreatDoor.Model
namespace Go.Proofs.YtneilnibghhgmaaGreatDoor.Model
open Go.RowKit Num Ident Semver Fr
open Range (Rng noRng RV KeepS LtB LenOk goodR wt)
open KR (KRow AtV)
open Name (isName)
open Nrm (hasR)
theorem pins_nodup {l:List MPin} (h:pinsF (l.map MPin.p)=none):(l.map MPin.name).Nodup:=by
 have h1:∀ k,k<(l.map MPin.p).length→((((l.map MPin.p).take k).any fun x=>x.name == ((l.map MPin.p).getD k default).name))=false:=fun k hk=>by
  have:=firstG_no _ _ 0 h k hk
  rw [Nat.zero_add] at this
  have e:=toO_none.1 this
  unfold pinE at e
  split at e
  ·cases e
  ·split at e
   ·cases e
   ·split at e
    ·cases e
    ·next h3=>unfold nameB at h3; exact Bool.not_eq_true _ ▸ (Bool.eq_false_iff.2 h3)
 have h2:=(ahead_iff (fun x y:PPin=>x.name == y.name) (l.map MPin.p)).1 h1
 rw [List.pairwise_map] at h2
 unfold List.Nodup
 rw [List.pairwise_map]
 exact h2.imp fun {a b} h=>by have h:(a.name == b.name)=false:=h; simpa using h
theorem solvesB_eq (x:List MPack) (roots:List MDep) (s:List MPin):solvesB (x.map MPack.p) (roots.map MDep.p) (s.map MPin.p)=(((checkF (x.map MPack.p)).isNone && ((rootsF (roots.map MDep.p)).isNone && (pinsF (s.map MPin.p)).isNone)) && (risingB (s.map MPin.p) && ((roots.all fun d=>metB (s.map MPin.p) d.p) && s.all fun p=>pinOk (x.map MPack.p) (s.map MPin.p) p.p))):=by
 unfold solvesB
 rw [List.all_map,List.all_map]
 cases (checkF (x.map MPack.p)).isNone <;> cases (rootsF (roots.map MDep.p)).isNone <;> cases (pinsF (s.map MPin.p)).isNone <;> rfl
structure LoopW (w W:World) (ib cb mb:Nat) (A:Option Addr) (n c:Nat) (s:List MPin):Prop where
 ix:AtV W ib [.slice A n c]
 ch:AtV W cb [.map (some mb)]
 map:ChosenAt W mb s
 bel:Below w.heap.size w W
theorem LoopW.same {w W W':World} {ib cb mb:Nat} {A:Option Addr} {n c:Nat} {s:List MPin} (h:LoopW w W ib cb mb A n c s) (hb:Below W.heap.size W W'):LoopW w W' ib cb mb A n c s :=
 ⟨h.ix.kept hb h.ix.lt,h.ch.kept hb h.ch.lt,h.map.kept hb h.map.lt,h.bel.trans (hb.mono h.bel.size)⟩
theorem two_made (W1:World):∃ W,W=(W1.alloc (.map #[] 0)).alloc (.cells #[.map (some W1.heap.size)] 85)∧ChosenAt W W1.heap.size []∧AtV W (W1.heap.size+1) [.map (some W1.heap.size)]∧Below W1.heap.size W1 W:=by
 refine ⟨_,rfl,?_,?_,?_⟩
 ·exact (ChosenAt.made W1).kept ((Below.refl _ _).alloc (Nat.le_refl _) _) (by simp)
 ·have h:=AtV.new (W1.alloc (.map #[] 0)) 85 [.map (some W1.heap.size)]
  rwa [size_alloc] at h
 ·exact ((Below.refl _ _).alloc (Nat.le_refl _) _).alloc (by simp) _
theorem solves_any (A:Option Addr) (n c:Nat) (x:List MPack) (RA:Option Addr) (rn rc:Nat) (roots:List MDep) (SA:Option Addr) (m sc:Nat) (s:List MPin) (B:Nat) (w:World) (hx:PRow w (LtB B) A n x) (hr:DRow w (LtB B) RA rn roots) (hs:SPRow w (LtB B) SA m s) (hB:B≤w.heap.size) (hn:n≤maxLen) (hrn:rn≤maxLen) (hf:FewX x) (hfr:FewD roots) (hfs:FewS s) (ht:Tab w) :
  Calls Tryz.prog 15 #[.agg #[.slice A n c],.slice RA rn rc,.slice SA m sc] w fun e w'=>e=.returned (.bool (solvesB (x.map MPack.p) (roots.map MDep.p) (s.map MPin.p)))∧Below w.heap.size w w':=by
 have hm8:m≤8:=by have:=hs.row.1; have:=hfs.1; omega
 have HX:=Lib.hid hx
 have HR:=Lib.hid hr
 have HP:=Lib.hid hs
 have HL:=Lib.hid hs.row.1
 have HLR:=Lib.hid hr.row.1
 have HF:=Lib.hid hf
 have HFR:=Lib.hid hfr
 have HB:=Lib.hid hB
 have HN:=Lib.hid hn
 have HEQ:=Lib.hid (solvesB_eq x roots s)
 have HND:=Lib.hid (fun h=>pins_nodup (l:=s) h)
 obtain ⟨W0,hW,hav,hb0⟩:∃ W,W=w.alloc (.cells #[.slice A n c] 24)∧AtV W w.heap.size [.slice A n c]∧Below w.heap.size w W:=⟨_,rfl,AtV.new w _ _,(Below.refl _ _).alloc (Nat.le_refl _) _⟩
 have HAV:=Lib.hid hav
 have HB0:=Lib.hid hb0
 have hrt:=right_any A n c x RA rn rc roots SA m sc s B W0 (hx.keep (KeepS.of_below hb0)) (hr.keep (KeepS.of_below hb0)) (hs.keep (KeepS.of_below hb0)) (Nat.le_trans hB hb0.size) hrn (by omega) hf (ht.kept hb0)
 clear hav hb0 hx hr hs hf hfr hfs ht hB hn hrn
 obtain ⟨ib,hib⟩:∃ ib,w.heap.size=ib:=⟨_,rfl⟩
 go_enter Tryz.func15,Tryz.ntmps15
 go_upto_region 1 with (fail)
 rw [← hW]
 rw [hib] at HAV
 clear hW
 have HIB:=Lib.hid hib
 clear hib
 have i0:=HAV.out.at_ 0 _ rfl
 go_wp2_with fail
 refine hrt.mono ?_
 rintro e W1 ⟨rfl,hb⟩
 have HB1:=Lib.hid (HB0.out.trans (hb.mono HB0.out.size))
 have HAV1:=Lib.hid (HAV.out.kept hb HAV.out.lt)
 clear hb i0 hrt
 have HPN:Hid (((checkF (x.map MPack.p)).isNone && ((rootsF (roots.map MDep.p)).isNone && (pinsF (s.map MPin.p)).isNone))=true→pinsF (s.map MPin.p)=none):=fun h=>by
  simp only [Bool.and_eq_true,Option.isNone_iff_eq_none] at h
  exact h.2.2
 obtain ⟨b1,hb1⟩:∃ b,((checkF (x.map MPack.p)).isNone && ((rootsF (roots.map MDep.p)).isNone && (pinsF (s.map MPin.p)).isNone))=b:=⟨_,rfl⟩
 rw [hb1] at HEQ HPN ⊢
 clear hb1
 cases b1 with
 | false =>
  have HEQ:=Lib.hid (HEQ.out.trans (Bool.false_and _))
  go_wp2
  go_ret
  exact ⟨by rw [HEQ.out]; rfl,HB1.out⟩
 | true =>
  have HND:=Lib.hid (HND.out (HPN.out rfl))
  clear HPN
  go_wp2_with fail
  refine (rising_any SA m sc s (LtB B) _ (HP.out.keep (KeepS.of_below HB1.out)) (by omega)).mono ?_
  rintro e W2 ⟨rfl,hb⟩
  have HB2:=Lib.hid (HB1.out.trans (hb.mono HB1.out.size))
  have HAV2:=Lib.hid (HAV1.out.kept hb HAV1.out.lt)
  clear hb
  obtain ⟨b2,hb2⟩:∃ b,risingB (s.map MPin.p)=b:=⟨_,rfl⟩
  rw [hb2] at HEQ ⊢
  clear hb2
  cases b2 with
  | false =>
   have HEQ:=Lib.hid (HEQ.out.trans (by simp:_=false))
   go_wp2
   go_ret
   exact ⟨by rw [HEQ.out]; rfl,HB2.out⟩
  | true =>
   have HEQ:=Lib.hid (HEQ.out.trans (by simp:_=((roots.all fun d=>metB (s.map MPin.p) d.p) && s.all fun p=>pinOk (x.map MPack.p) (s.map MPin.p) p.p)))
   have hmm:=@run_makeMap Tryz.prog
   obtain ⟨W3,hW3,hm3,hc3,hb3⟩:=two_made W2
   have HW3:Hid (LoopW w W3 ib (W2.heap.size+1) W2.heap.size A n c (s.take 0)):=⟨HAV2.out.kept hb3 HAV2.out.lt,hc3,hm3,HB2.out.trans (hb3.mono HB2.out.size)⟩
   have HMB:Hid (w.heap.size≤W2.heap.size):=HB2.out.size
   have HIL:Hid (ib<W2.heap.size):=HAV2.out.lt
   clear hm3 hc3 hb3
   obtain ⟨mb,hmb⟩:∃ mb,W2.heap.size=mb:=⟨_,rfl⟩
   rw [hmb] at hW3
   go_upto_region 4 with (fail)
   rw [← hW3]
   rw [hmb] at HW3 HMB HIL
   clear hW3 hmb hmm
   have HIM:Hid (ib≠mb∧w.heap.size≤mb):=⟨by have:=HIL.out; omega,HMB.out⟩
   go_wp2
   go_loopw [24] (fun y W=>∃ k:Nat,k≤m∧y=.int .i64 k∧Hid (LoopW w W ib (mb+1) mb A n c (s.take k))) (fun y _=>m - (intOf y).toNat)
   case atStart=>exact ⟨0,Nat.zero_le _,rfl,HW3.out⟩
   case round =>
    rename World=>wk
    obtain ⟨k,hk,rfl,HC⟩:=hrel
    by_cases hlt:k<m
    ·have hkl:k<s.length:=by rw [HL.out]; exact hlt
     have hrow:=HP.out.keep (KeepS.of_below (S:=LtB B) HC.out.bel)
     have HPO:Hid (PinOk wk (LtB B) (s.getD k default)):=hrow.ok _ (getD_mem hkl)
     obtain ⟨b,o,rfl,_,hb,c0,c1,c2,c3,c4,c5⟩:=hrow.cells hlt
     have HTK:Hid (s.take (k+1)=s.take k ++ [s.getD k default]):=by
      unfold Hid
      rw [List.take_succ_eq_append_getElem hkl,List.getD_eq_getElem?_getD,List.getElem?_eq_getElem hkl]; rfl
     have HNM:Hid ((s.getD k default).name ∉ (s.take k).map MPin.name):=by
      have:=HND.out
      rw [← List.take_append_drop (k+1) s,HTK.out,List.map_append,List.map_append,List.append_assoc] at this
      intro hin
      exact (List.nodup_append.1 this).2.2 _ hin _ (by simp) rfl
     obtain ⟨p,hp⟩:∃ p,s.getD k default=p:=⟨_,rfl⟩
     rw [hp] at c0 c1 c2 c3 c4 c5 HPO HTK HNM
     clear hp hrow
     obtain ⟨W5,hW5,hpv,hb5⟩:∃ W,W=wk.alloc (.cells #[.string (Ident.mk p.name),p.ver.v.a,p.ver.v.b,p.ver.v.c,.slice p.ver.A p.ver.v.pre.length p.ver.c,.slice p.ver.B p.ver.v.build.length p.ver.d] 66)∧AtV W wk.heap.size [.string (Ident.mk p.name),.int .u64 p.ver.v.a,.int .u64 p.ver.v.b,.int .u64 p.ver.v.c,.slice p.ver.A p.ver.v.pre.length p.ver.c,.slice p.ver.B p.ver.v.build.length p.ver.d]∧Below wk.heap.size wk W:=⟨_,rfl,AtV.new wk _ _,(Below.refl _ _).alloc (Nat.le_refl _) _⟩
     have HC5:=Lib.hid (HC.out.same hb5)
     have HPV:=Lib.hid hpv
     clear hpv hb5
     obtain ⟨q,hq⟩:∃ q,wk.heap.size=q:=⟨_,rfl⟩
     go_upto_region 7 with (fail)
     rw [← hW5]
     rw [hq] at HPV
     clear hW5 hq c0 c1 c2 c3 c4 c5 hb
     have m0:=HC5.out.ch.at_ 0 _ rfl
     have p0:=HPV.out.at_ 0 _ rfl
     have p1:=HPV.out.at_ 1 _ rfl
     have p2:=HPV.out.at_ 2 _ rfl
     have p3:=HPV.out.at_ 3 _ rfl
     have p4:=HPV.out.at_ 4 _ rfl
     have p5:=HPV.out.at_ 5 _ rfl
     obtain ⟨D,hown,hmap,hhas,hat⟩:=HC5.out.map
     have HD:=Lib.hid hown
     have HA:=Lib.hid (chosen_add hmap hhas hat HNM.out)
     have hlen:(s.take k).length≤8:=by rw [List.length_take]; omega
     clear hown hmap hhas hat
     have hkey:keyOf Tryz.prog 9 (.string (Ident.mk p.name))=some (.string p.name):=by have:=strKey (s:=Ident.mk p.name) (by rw [mk_size]; exact HPO.out.short); rwa [mk_list] at this
     go_wp2_with (first
      | (at_mapUpdate; refine wpList_mapUpdate_own _ rfl _ _ _ 85 rfl 9 47 strKeyed Tryz.underlying85 verElem mb (s.take k).length D rfl HD.out (by unfold maxLen; omega) _ _ _ rfl rfl hkey (.held p.ver.agg) [] rfl ?_)
      | go_in)
     intro w6 hown6 hgrow6
     have HBT:Hid (But (fun j=>j=mb) W5 w6):=But.of_grown (T:=fun j=>j=mb) hgrow6 fun b e=>by cases e; rfl
     have HC6:Hid (LoopW w w6 ib (mb+1) mb A n c (s.take (k+1))) :=
      ⟨HC5.out.ix.but HBT.out (fun e=>HIM.out.1 e),HC5.out.ch.but HBT.out (by omega),by rw [HTK.out]; exact ⟨_,by rw [List.length_append,List.length_singleton]; simpa using hown6,HA.out.1,HA.out.2.1,HA.out.2.2⟩,HC5.out.bel.trans (HBT.out.below (B:=w.heap.size) (fun j e=>by have:=HIM.out.2; omega) HC5.out.bel.size)⟩
     clear hown6 hgrow6 m0 hkey p0 p1 p2 p3 p4 p5
     go_wp2
     exact ⟨⟨k+1,by omega,by go_num,HC6.out⟩,by simp [intOf]; omega⟩
    ·obtain rfl:k=m:=by omega
     have HTK:Hid (s.take k=s):=List.take_of_length_le (by rw [HL.out]; exact Nat.le_refl _)
     rw [HTK.out] at HC
     obtain ⟨W7,hW7,hfv,hb7⟩:∃ W,W=wk.alloc (.cells #[.func (.func 43) #[] #[.pointer (some ⟨mb+1,0,none⟩)]] 87)∧AtV W wk.heap.size [.func (.func 43) #[] #[.pointer (some ⟨mb+1,0,none⟩)]]∧Below wk.heap.size wk W:=⟨_,rfl,AtV.new wk _ _,(Below.refl _ _).alloc (Nat.le_refl _) _⟩
     obtain ⟨fb,hfb⟩:∃ fb,wk.heap.size=fb:=⟨_,rfl⟩
     have HS7:Hid (SolW W7 B A n c x s ib (mb+1) fb mb):=by
      rw [← hfb]
      have h7:=HC.out.same hb7
      exact ⟨h7.ix,h7.ch,hfv,h7.map,HX.out.keep (KeepS.of_below h7.bel),fun p hp=>(HP.out.keep (KeepS.of_below h7.bel)).ok p hp,Nat.le_trans HB.out h7.bel.size⟩
     have HB7:=Lib.hid (HC.out.same hb7).bel
     clear hfv hb7
     have hroots:=HR.out.keep (KeepS.of_below (S:=LtB B) HB7.out)
     have hev:=everyDep_any RA rn rc roots 43 #[.pointer (some ⟨mb+1,0,none⟩)] (enters_of Tryz.func43 (by kernel_rfl) rfl) (fun d=>metB (s.map MPin.p) d.p) (LtB B) W7 hroots.row (by have:=HFR.out.1; have:=HLR.out; omega)
      (fun V d hd hV=>HS7.out.met HND.out (hroots.ok d hd) (HFR.out.2 d hd) hV)
     clear hroots
     go_upto_region 10 with (fail)
     rw [← hW7]
     clear hW7 hfb
     have f0:=HS7.out.fn.at_ 0 _ rfl
     go_wp2_with fail
     refine hev.mono ?_
     rintro e W8 ⟨rfl,hb8⟩
     have HB8:=Lib.hid (HB7.out.trans (hb8.mono HB7.out.size))
     have HS8:=Lib.hid (HS7.out.kept hb8)
     clear hb8 hev f0
     obtain ⟨a,ha⟩:∃ a,(roots.all fun d=>metB (s.map MPin.p) d.p)=a:=⟨_,rfl⟩
     rw [ha] at HEQ ⊢
     clear ha
     cases a with
     | false =>
      have HEQ:=Lib.hid (HEQ.out.trans (Bool.false_and _))
      go_wp2
      go_ret
      exact ⟨by rw [HEQ.out]; rfl,HB8.out⟩
     | true =>
      have HEQ:=Lib.hid (HEQ.out.trans (Bool.true_and _))
      have hpr:=HP.out.keep (KeepS.of_below (S:=LtB B) HB8.out)
      have hep:=everyPin_any SA k sc s 47 #[.pointer (some ⟨ib,0,none⟩),.pointer (some ⟨fb,0,none⟩)] (enters_of Tryz.func47 (by kernel_rfl) rfl) (fun p=>pinOk (x.map MPack.p) (s.map MPin.p) p.p) (LtB B) W8 hpr.row (by omega)
       (fun V p hp hV=>pinOk_any p B A n c x s ib (mb+1) fb mb V (HS8.out.kept hV) HF.out HND.out ((hpr.ok p hp).keep (KeepS.of_below hV)) HN.out)
      clear hpr
      go_wp2_with fail
      refine hep.mono ?_
      rintro e W9 ⟨rfl,hb9⟩
      have HB9:=Lib.hid (HB8.out.trans (hb9.mono HB8.out.size))
      clear hb9 hep
      obtain ⟨a,ha⟩:∃ a,(s.all fun p=>pinOk (x.map MPack.p) (s.map MPin.p) p.p)=a:=⟨_,rfl⟩
      rw [ha] at HEQ ⊢
      clear ha
      cases a with
      | false =>
       go_wp2
       go_ret
       exact ⟨by rw [HEQ.out]; rfl,HB9.out⟩
      | true =>
       go_wp2
       go_ret
       exact ⟨by rw [HEQ.out]; rfl,HB9.out⟩
end Go.Proofs.YtneilnibghhgmaaGreatDoor.Model
namespace Go.Proofs.YtneilnibghhgmaaGreatDoor.Model
open Go.RowKit Num Ident Semver
open Range (LtB)
theorem saysA:SaysA where
 check:=fun A n c x B w hx hB _ hf ht=>check_any A n c x B w hx hB hf ht
 roots:=fun A n c l B w h hB ho _=>roots_any A n c l B w h hB ho.len
 pins:=fun A n c s B w h hB _ hf=>pins_any A n c s B w h hB (by have:=h.row.1; have:=hf.1; omega)
 solves:=fun A n c x RA rn rc roots SA m sc s B w hx hr hs hB ho ho2 _ hf hf2 hf3 ht=>solves_any A n c x RA rn rc roots SA m sc s B w hx hr hs hB ho.len ho2.len hf hf2 hf3 ht
end Go.Proofs.YtneilnibghhgmaaGreatDoor.Model
