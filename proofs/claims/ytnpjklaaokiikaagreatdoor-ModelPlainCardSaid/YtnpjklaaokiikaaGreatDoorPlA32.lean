/-
  What the theorem of the last text needs of these: MoCheckAny, MoRelease, MoSortS, MoRight, MoSortT. Conditions: as each theorem states.
-/
import Derived.Test.YtnpjklaaokiikaaGreatDoorPlA1
import Derived.Test.YtnpjklaaokiikaaGreatDoorPlA12
import Derived.Test.YtnpjklaaokiikaaGreatDoorPlA26
import Derived.Test.YtnpjklaaokiikaaGreatDoorPlA27
import Derived.Test.YtnpjklaaokiikaaGreatDoorPlA28
import Derived.Test.YtnpjklaaokiikaaGreatDoorPlA29
import Derived.Test.YtnpjklaaokiikaaGreatDoorPlA30
import Derived.Test.YtnpjklaaokiikaaGreatDoorShelfIns
set_option maxRecDepth 100000
set_option maxHeartbeats 25600000
namespace Go.Proofs.YtnpjklaaokiikaaGreatDoor.Model
open Go.RowKit Num Ident Semver Fr
open Range (Rng noRng RV KeepS LtB LenOk goodR wt)
open KR (KRow AtV)
open Name (isName)

theorem chk_made (w:World) (A:Option Addr) (n c:Nat):∃ W,W=(((w.alloc (.cells #[.slice A n c] 24)).alloc (.cells #[.int .i64 (-1),.int .i64 (-1),.int .i64 (-1)] 42)).alloc (.map #[] 0)).alloc (.cells #[.map (some (w.heap.size+1+1))] 94)∧AtV W w.heap.size [.slice A n c]∧AtV W (w.heap.size+1) [.int .i64 (-1),.int .i64 (-1),.int .i64 (-1)]∧SeenAt W (w.heap.size+1+1) []∧AtV W (w.heap.size+1+1+1) [.map (some (w.heap.size+1+1))]∧Below w.heap.size w W:=by
 obtain ⟨V1,hV1⟩:∃ V,V=w.alloc (.cells #[.slice A n c] 24):=⟨_,rfl⟩
 have a1:AtV V1 w.heap.size [.slice A n c]:=by rw [hV1]; exact AtV.new w _ _
 have z1:V1.heap.size=w.heap.size+1:=by rw [hV1]; simp
 have b1:Below w.heap.size w V1:=by rw [hV1]; exact (Below.refl _ _).alloc (Nat.le_refl _) _
 obtain ⟨V2,hV2⟩:∃ V,V=V1.alloc (.cells #[.int .i64 (-1),.int .i64 (-1),.int .i64 (-1)] 42):=⟨_,rfl⟩
 have k2:Below V1.heap.size V1 V2:=by rw [hV2]; exact (Below.refl _ _).alloc (Nat.le_refl _) _
 have a2:AtV V2 (w.heap.size+1) [.int .i64 (-1),.int .i64 (-1),.int .i64 (-1)]:=by rw [hV2,← z1]; exact AtV.new V1 _ _
 have z2:V2.heap.size=w.heap.size+1+1:=by rw [hV2]; simp [z1]
 obtain ⟨V3,hV3⟩:∃ V,V=V2.alloc (.map #[] 0):=⟨_,rfl⟩
 have k3:Below V2.heap.size V2 V3:=by rw [hV3]; exact (Below.refl _ _).alloc (Nat.le_refl _) _
 have a3:SeenAt V3 (w.heap.size+1+1) []:=by rw [hV3,← z2]; exact SeenAt.made V2
 have z3:V3.heap.size=w.heap.size+1+1+1:=by rw [hV3]; simp [z2]
 obtain ⟨V4,hV4⟩:∃ V,V=V3.alloc (.cells #[.map (some (w.heap.size+1+1))] 94):=⟨_,rfl⟩
 have k4:Below V3.heap.size V3 V4:=by rw [hV4]; exact (Below.refl _ _).alloc (Nat.le_refl _) _
 have a4:AtV V4 (w.heap.size+1+1+1) [.map (some (w.heap.size+1+1))]:=by rw [hV4,← z3]; exact AtV.new V3 _ _
 refine ⟨V4,by rw [hV4,hV3,hV2,hV1],((a1.kept k2 (by omega)).kept k3 (by omega)).kept k4 (by omega),(a2.kept k3 (by omega)).kept k4 (by omega),a3.kept k4 (by omega),a4,b1.trans ((k2.trans ((k3.trans (k4.mono (by omega))).mono (by omega))).mono (by omega))⟩
def nms (l:List MPack) (k:Nat):List (List UInt8):=(l.take k).map MPack.name
theorem nms_snoc {l:List MPack} {k:Nat} (h:k<l.length):nms l (k+1)=nms l k ++ [(l.getD k default).name]:=take_map_snoc MPack.name l h
theorem nameB_nms {l:List MPack} {k:Nat} (hk:k<l.length):(l.getD k default).p.name ∈ nms l k↔nameB PPack.name (l.map MPack.p) k=true:=by
 rw [nameB_iff,map_at MPack.p l hk]
 unfold nms
 rw [← List.map_take,List.map_map]
 exact Iff.rfl
theorem chk_first (x:List MPack) (A:Option Addr) (n c:Nat) (B zb:Nat) (w W:World) (hx:PRow w (LtB B) A n x) (hf:FewX x) (ht:Tab w) (hB:B≤zb) (hzb:zb=w.heap.size) (hb:Below w.heap.size w W) (h2:AtV W (zb+1) [.int .i64 (-1),.int .i64 (-1),.int .i64 (-1)]) (h3:SeenAt W (zb+1+1) []) (h4:AtV W (zb+1+1+1) [.map (some (zb+1+1))]) :
  Calls Tryz.prog 49 #[.slice A n c,.func (.func 50) #[] #[.pointer (some ⟨zb+1+1+1,0,none⟩),.pointer (some ⟨zb+1,0,none⟩)]] W fun e w'=>∃ a q1 q2 f:Int,e=.returned (.tuple #[.int .i64 a,.int .i64 f])∧AtV w' (zb+1) [.int .i64 (-1),.int .i64 q1,.int .i64 q2]∧Below w.heap.size w w'∧out4 (checkF (x.map MPack.p))=(a,q1,q2,f):=by
 have hlx:=hx.row.1
 have hfl:=hf.len
 have hrow:∀ W',But (fun b=>b=zb+1+1∨b=zb+1) W W'→PRow W' (LtB B) A n x:=fun W' hw=>(hx.keep (KeepS.of_below hb)).keep (keepS_but hw fun g hg e=>by have hg:g<B:=hg; omega)
 refine (firstPack_any 50 #[.pointer (some ⟨zb+1+1+1,0,none⟩),.pointer (some ⟨zb+1,0,none⟩)] (enters_of Tryz.func50 (by kernel_rfl) rfl) A n c x
  (fun k=>(packK (nms x k) (x.getD k default).p).2.2)
  (fun k W'=>SeenAt W' (zb+1+1) (nms x k)∧AtV W' (zb+1) [.int .i64 (-1),.int .i64 (-1),.int .i64 (-1)]∧But (fun b=>b=zb+1+1∨b=zb+1) W W')
  (fun k W'=>AtV W' (zb+1) [.int .i64 (-1),.int .i64 (packK (nms x k) (x.getD k default).p).1,.int .i64 (packK (nms x k) (x.getD k default).p).2.1]∧But (fun b=>b=zb+1+1∨b=zb+1) W W') (LtB B) W (by unfold maxLen; omega)
  (fun k W' _ hI=>hrow W' hI.2.2) (fun k W' hk hI=>?_) ⟨h3,h2,But.refl _ _⟩).mono ?_
 ·have hkl:k<x.length:=by omega
  have hm:=hx.row.mem hk
  refine (pack1_any (x.getD k default) (zb+1+1+1) (zb+1) (zb+1+1) (nms x k) B W' ((hrow W' hI.2.2).ok _ hm) (fun r hr=>hf.rel _ hm r hr) (hf.pack _ hm).2 (h4.but hI.2.2 (by omega)) hI.2.1 hI.1 (by unfold nms; simp; omega) ⟨by omega,by omega,by omega⟩ ⟨by omega,by omega⟩ (by have:=hb.size; have:=hI.2.2.size; omega) w ht (hb.trans (hI.2.2.below (B:=w.heap.size) (fun k e=>by omega) hb.size)) ⟨by omega,by omega⟩).mono ?_
  rintro e w' ⟨ho,hd,hs,hbt⟩
  refine ⟨ho,fun h0=>⟨?_,?_,hI.2.2.then_ hbt⟩,fun _=>⟨hd,hI.2.2.then_ hbt⟩⟩
  ·rw [nms_snoc hkl]; exact hs h0
  ·have:=(packK_zero h0).1
   rw [this] at hd; exact hd
 ·intro e w' hp2
  have rel:∀ k,k<n→packF (x.map MPack.p) k ((x.map MPack.p).getD k default)=if (packK (nms x k) (x.getD k default).p).2.2=0 then none else some (packK (nms x k) (x.getD k default).p):=fun k hk=>by
   rw [map_at MPack.p x (by omega)]
   exact packK_some (nameB_nms (by omega))
  have len:(x.map MPack.p).length=n:=by rw [List.length_map]; exact hlx
  have hfull:checkF (x.map MPack.p)=(firstG (packF (x.map MPack.p)) 0 (x.map MPack.p)).map fun q=>((q.1:Int),q.2.1,q.2.2.1,q.2.2.2):=by unfold checkF; rw [if_neg (by omega)]
  rw [hfull]
  rcases hp2 with ⟨k,hk,ha,hne,he,hd,hbt⟩ | ⟨ha,he,_,hd,hbt⟩
  ·refine ⟨_,_,_,_,he,hd,hb.trans (hbt.below (B:=w.heap.size) (fun k e=>by omega) hb.size),?_⟩
   have e1:=firstG_stop (packF (x.map MPack.p)) (x.map MPack.p) 0 k _ (by omega) (fun j hj=>by
    rw [Nat.zero_add,rel j (by omega),if_pos (ha j hj)]) (by
    rw [Nat.zero_add,rel k hk,if_neg hne])
   rw [e1,Nat.zero_add]; rfl
  ·refine ⟨_,_,_,_,he,hd,hb.trans (hbt.below (B:=w.heap.size) (fun k e=>by omega) hb.size),?_⟩
   have e1:=firstG_none (packF (x.map MPack.p)) (x.map MPack.p) 0 (fun j hj=>by
    rw [Nat.zero_add,rel j (by omega),if_pos (ha j (by omega))])
   rw [e1]; rfl
theorem check_any (A:Option Addr) (n c:Nat) (x:List MPack) (B:Nat) (w:World) (hx:PRow w (LtB B) A n x) (hB:B≤w.heap.size) (hf:FewX x) (ht:Tab w) :
  Calls Tryz.prog 16 #[.agg #[.slice A n c]] w fun e w'=>e=.returned (checkV (checkF (x.map MPack.p)))∧Below w.heap.size w w':=by
 obtain ⟨W,hW,h1,h2,h3,h4,hb⟩:=chk_made w A n c
 obtain ⟨zb,hzb⟩:∃ zb,w.heap.size=zb:=⟨_,rfl⟩
 rw [hzb] at hW h1 h2 h3 h4
 have hfst:=chk_first x A n c B zb w W hx hf ht (by omega) hzb.symm hb h2 h3 h4
 have H1:=Lib.hid h1
 have HPB:=Lib.hid hzb
 have hn6:n≤6:=by have:=hx.row.1; have:=hf.len; omega
 clear h1 h2 h3 h4 hb hx hf ht
 have hmm:=@run_makeMap Tryz.prog
 go_enter Tryz.func16,Tryz.ntmps16
 go_upto_region 5 with (fail)
 rw [← hW]
 clear hW hzb hmm hB
 have c0:=H1.out.at_ 0 _ rfl
 go_wp2_with fail
 refine hfst.mono ?_
 rintro e W2 ⟨a,q1,q2,f,rfl,hd,hb,hq⟩
 clear hfst c0
 have HQ:=Lib.hid hq
 have HB2:=Lib.hid hb
 have HD2:=Lib.hid hd
 clear hq hb hd
 have d0:=HD2.out.at_ 0 _ rfl
 have d1:=HD2.out.at_ 1 _ rfl
 have d2:=HD2.out.at_ 2 _ rfl
 have hdl:zb+1<W2.heap.size:=HD2.out.lt
 have hdf:=HD2.out.fr
 go_upto_region 6 with (fail)
 have HD3:Hid (AtV (W2.setCell ⟨zb+1,0,none⟩ (.int .i64 a)) (zb+1) [.int .i64 a,.int .i64 q1,.int .i64 q2]):=HD2.out.set 0 (.int .i64 a) (by simp)
 have HB3:Hid (Below w.heap.size w (W2.setCell ⟨zb+1,0,none⟩ (.int .i64 a))):=HB2.out.setCell (p:=⟨zb+1,0,none⟩) (by have:=HPB.out; show w.heap.size≤zb+1; omega) _
 clear d0 d1 d2 hdl hdf
 generalize W2.setCell ⟨zb+1,0,none⟩ (.int .i64 a)=W3 at HD3 HB3 ⊢
 have d0:=HD3.out.at_ 0 _ rfl
 have d1:=HD3.out.at_ 1 _ rfl
 have d2:=HD3.out.at_ 2 _ rfl
 have hdl:zb+1<W3.heap.size:=HD3.out.lt
 have hdf:=HD3.out.fr
 go_wp2
 have hle:w.heap.size≤zb+1:=by have:=HPB.out; omega
 refine bodyPost_ret (v:=.tuple #[.agg #[.int .i64 a,.int .i64 q1,.int .i64 q2],.int .i64 f]) (by simp [results,Tryz.results16,go_sem,d0,d1,d2]) rfl ⟨by unfold checkV; rw [HQ.out],((HB3.out.setCell (p:=⟨zb+1,0,none⟩) hle _).setCell (p:=⟨zb+1,1,none⟩) hle _).setCell (p:=⟨zb+1,2,none⟩) hle _⟩
end Go.Proofs.YtnpjklaaokiikaaGreatDoor.Model
namespace Go.Proofs.YtnpjklaaokiikaaGreatDoor.Copy
open Go.RowKit Num Ident Semver Fr
open Range (Rng noRng RV Lies RgRow CellsAt KeepS LtB InS FitV)
open KR (KRow AtV)
open Model (MDep MVer MRel MPack MPin PRel DepOk VerOk RelOk PackOk PinOk DRow RRow PRow FewD FewRel FewX SlOk findRel findRel_p findRel_in find_any relV releaseO RelPost)
theorem three_new (w:World) (L M K:List Value) (t u s:TypeId):∃ W,W=((w.alloc (.cells L.toArray t)).alloc (.cells M.toArray u)).alloc (.cells K.toArray s)∧AtV W w.heap.size L∧AtV W (w.heap.size+1) M∧AtV W (w.heap.size+1+1) K∧Below w.heap.size w W∧W.heap.size=w.heap.size+1+1+1∧Is W (w.heap.size+1+1) s:=by
 obtain ⟨V,hV,h1,h2,hb,hs⟩:=two_new w L M t u
 refine ⟨_,by rw [← hV],?_⟩
 have k:Below V.heap.size V (V.alloc (.cells K.toArray s)):=(Below.refl _ _).alloc (Nat.le_refl _) _
 have h3:=AtV.new V s K
 rw [hs] at h3
 exact ⟨h1.kept k h1.lt,h2.kept k h2.lt,h3,hb.trans (k.mono hb.size),by rw [size_alloc,hs],⟨_,by rw [← hs]; exact heap_alloc_new V _⟩⟩
theorem rel_default (w:World):RelOk w (LtB w.heap.size) (default:MRel) :=
 ⟨⟨⟨rfl,fun h=>absurd h (Nat.lt_irrefl _)⟩,⟨rfl,fun h=>absurd h (Nat.lt_irrefl _)⟩,(fun h=>absurd h (Nat.lt_irrefl _)),(fun h=>absurd h (Nat.lt_irrefl _)),Nat.le_refl _,Nat.le_refl _,Range.FitV.none⟩,Model.DRow.none_ _ _,Model.DRow.none_ _ _,⟨Nat.le_refl _,by unfold maxLen; exact Nat.zero_le _⟩,⟨Nat.le_refl _,by unfold maxLen; exact Nat.zero_le _⟩,fun _=>rfl,fun _=>rfl⟩
theorem release_any (A:Option Addr) (n c:Nat) (x:List MPack) (name:List UInt8) (v:MVer) (B:Nat) (w:World) (h:PRow w (LtB B) A n x) (hv:VerOk w (LtB B) v) (hB:B≤w.heap.size) (hs:SlOk A n c) (hf:FewX x) (hn:name.length≤300) :
  Calls Tryz.prog 11 #[.agg #[.slice A n c],.string (Ident.mk name),v.agg] w (RelPost x name v.v w):=by
 obtain ⟨W0,hW,h1,h2,h3,hb,hsz,his⟩:=three_new w [.slice A n c] [.int .u64 v.v.a,.int .u64 v.v.b,.int .u64 v.v.c,.slice v.A v.v.pre.length v.c,.slice v.B v.v.build.length v.d] [.int .u64 0,.int .u64 0,.int .u64 0,.slice none 0 0,.slice none 0 0,.bool false,.slice none 0 0,.slice none 0 0] 24 34 36
 have H1:=Lib.hid h1
 have H2:=Lib.hid h2
 have H3:=Lib.hid h3
 have HB:=Lib.hid hb
 have HS:=Lib.hid hsz
 have HIS:=Lib.hid his
 have HX:=Lib.hid (h.keep (KeepS.of_below (S:=LtB B) hb))
 have HP:Hid (PinOk W0 (LtB B) ⟨name,v⟩):=⟨by show name.length≤maxLen; unfold maxLen; omega,hv.keep (KeepS.of_below hb)⟩
 have HLB:=Lib.hid hB
 have HF:=Lib.hid hf
 have HSL:=Lib.hid hs
 clear his h1 h2 h3 hb hsz h hv hB hf hs hn
 obtain ⟨rb,hrb⟩:∃ rb,w.heap.size=rb:=⟨_,rfl⟩
 unfold MVer.agg
 go_enter Tryz.func11,Tryz.ntmps11
 go_upto_region 1 with (fail)
 rw [← hW]
 rw [hrb] at H1 H2 H3 HIS
 try rw [hrb]
 clear hW
 have i0:=H1.out.at_ 0 _ rfl
 have q0:=H2.out.at_ 0 _ rfl
 have q1:=H2.out.at_ 1 _ rfl
 have q2:=H2.out.at_ 2 _ rfl
 have q3:=H2.out.at_ 3 _ rfl
 have q4:=H2.out.at_ 4 _ rfl
 go_wp2_with fail
 refine (find_any A n c x ⟨name,v⟩ B _ HX.out HSL.out.len HP.out).mono ?_
 rintro e W1 ⟨rfl,hb⟩
 have HX1:=Lib.hid (HX.out.keep (KeepS.of_below (S:=LtB B) hb))
 have HB1:=Lib.hid (HB.out.trans (hb.mono HB.out.size))
 have H31:=Lib.hid (H3.out.kept hb H3.out.lt)
 have HIS1:=Lib.hid (HIS.out.below hb)
 have HS1:Hid (rb+1+1+1≤W1.heap.size):=by have:=HS.out; have:=hb.size; unfold Hid; omega
 clear hb i0 q0 q1 q2 q3 q4
 have HMEM:Hid (∀ r,findRel x name v.v=some r→RelOk W1 (LtB B) r∧FewRel r):=fun r h=>by
  obtain ⟨q,hq,hr⟩:=findRel_in h
  exact ⟨((HX1.out.ok q hq).rels.ok r hr),HF.out.rel q hq r hr⟩
 have HEQ:=Lib.hid (findRel_p x name v.v)
 dsimp only
 obtain ⟨f,hfe⟩:∃ f,findRel x name v.v=f:=⟨_,rfl⟩
 rw [hfe] at HEQ HMEM ⊢
 clear hfe
 cases f with
 | none =>
  obtain ⟨W2,hW2,hb2⟩:∃ W,W=W1.alloc (.cells #[.int .u64 0,.int .u64 0,.int .u64 0,.slice none 0 0,.slice none 0 0,.bool false,.slice none 0 0,.slice none 0 0] 36)∧Below W1.heap.size W1 W:=⟨_,rfl,(Below.refl _ _).alloc (Nat.le_refl _) _⟩
  have HB2:=Lib.hid (HB1.out.trans (hb2.mono HB1.out.size))
  have H32:=Lib.hid (H31.out.kept hb2 H31.out.lt)
  unfold relV
  go_upto_region 2 with (fail)
  rw [← hW2]
  clear hW2 hb2
  have z0:=H32.out.at_ 0 _ rfl
  have z1:=H32.out.at_ 1 _ rfl
  have z2:=H32.out.at_ 2 _ rfl
  have z3:=H32.out.at_ 3 _ rfl
  have z4:=H32.out.at_ 4 _ rfl
  have z5:=H32.out.at_ 5 _ rfl
  have z6:=H32.out.at_ 6 _ rfl
  have z7:=H32.out.at_ 7 _ rfl
  have hzl:rb+1+1<W2.heap.size:=H32.out.lt
  have hzf:=H32.out.fr
  go_wp2
  have HA3:Hid (AtV ((((((((W2.setCell ⟨rb+1+1,0,none⟩ (.int .u64 0)).setCell ⟨rb+1+1,1,none⟩ (.int .u64 0)).setCell ⟨rb+1+1,2,none⟩ (.int .u64 0)).setCell ⟨rb+1+1,3,none⟩ (.slice none 0 0)).setCell ⟨rb+1+1,4,none⟩ (.slice none 0 0)).setCell ⟨rb+1+1,5,none⟩ (.bool false)).setCell ⟨rb+1+1,6,none⟩ (.slice none 0 0)).setCell ⟨rb+1+1,7,none⟩ (.slice none 0 0)) (rb+1+1) [.int .u64 0,.int .u64 0,.int .u64 0,.slice none 0 0,.slice none 0 0,.bool false,.slice none 0 0,.slice none 0 0]):=atv_fill H32.out [.int .u64 0,.int .u64 0,.int .u64 0,.slice none 0 0,.slice none 0 0,.bool false,.slice none 0 0,.slice none 0 0] 0 rfl
  have HB3:Hid (But (fun k=>k=rb+1+1) W2 ((((((((W2.setCell ⟨rb+1+1,0,none⟩ (.int .u64 0)).setCell ⟨rb+1+1,1,none⟩ (.int .u64 0)).setCell ⟨rb+1+1,2,none⟩ (.int .u64 0)).setCell ⟨rb+1+1,3,none⟩ (.slice none 0 0)).setCell ⟨rb+1+1,4,none⟩ (.slice none 0 0)).setCell ⟨rb+1+1,5,none⟩ (.bool false)).setCell ⟨rb+1+1,6,none⟩ (.slice none 0 0)).setCell ⟨rb+1+1,7,none⟩ (.slice none 0 0))):=but_fill W2 (rb+1+1) [.int .u64 0,.int .u64 0,.int .u64 0,.slice none 0 0,.slice none 0 0,.bool false,.slice none 0 0,.slice none 0 0] 0
  clear z0 z1 z2 z3 z4 z5 z6 z7 hzl hzf
  try simp only [Exit.jump]
  generalize ((((((((W2.setCell ⟨rb+1+1,0,none⟩ (.int .u64 0)).setCell ⟨rb+1+1,1,none⟩ (.int .u64 0)).setCell ⟨rb+1+1,2,none⟩ (.int .u64 0)).setCell ⟨rb+1+1,3,none⟩ (.slice none 0 0)).setCell ⟨rb+1+1,4,none⟩ (.slice none 0 0)).setCell ⟨rb+1+1,5,none⟩ (.bool false)).setCell ⟨rb+1+1,6,none⟩ (.slice none 0 0)).setCell ⟨rb+1+1,7,none⟩ (.slice none 0 0))=W3 at HA3 HB3 ⊢
  have y0:=HA3.out.at_ 0 _ rfl
  have y1:=HA3.out.at_ 1 _ rfl
  have y2:=HA3.out.at_ 2 _ rfl
  have y3:=HA3.out.at_ 3 _ rfl
  have y4:=HA3.out.at_ 4 _ rfl
  have y5:=HA3.out.at_ 5 _ rfl
  have y6:=HA3.out.at_ 6 _ rfl
  have y7:=HA3.out.at_ 7 _ rfl
  have hbw:Below w.heap.size w W3:=HB2.out.trans (HB3.out.below (B:=w.heap.size) (fun k e=>by omega) HB2.out.size)
  refine bodyPost_ret (v:=.tuple #[.agg #[.int .u64 0,.int .u64 0,.int .u64 0,.slice none 0 0,.slice none 0 0,.bool false,.slice none 0 0,.slice none 0 0],.bool false]) (by simp [results,Tryz.results11,go_sem,y0,y1,y2,y3,y4,y5,y6,y7]) rfl ⟨default,?_,?_,rel_default W3,hbw⟩
  ·rw [HEQ.out]; rfl
  ·rw [HEQ.out]; rfl
 | some r =>
  have HR:=Lib.hid (HMEM.out r rfl)
  clear HMEM
  obtain ⟨W2,hW2,hrv,hb2⟩:∃ W,W=W1.alloc (.cells #[r.ver.v.a,r.ver.v.b,r.ver.v.c,.slice r.ver.A r.ver.v.pre.length r.ver.c,.slice r.ver.B r.ver.v.build.length r.ver.d,.bool r.yanked,.slice r.N r.needs.length r.nc,.slice r.B r.bans.length r.bc] 36)∧AtV W W1.heap.size [.int .u64 r.ver.v.a,.int .u64 r.ver.v.b,.int .u64 r.ver.v.c,.slice r.ver.A r.ver.v.pre.length r.ver.c,.slice r.ver.B r.ver.v.build.length r.ver.d,.bool r.yanked,.slice r.N r.needs.length r.nc,.slice r.B r.bans.length r.bc]∧Below W1.heap.size W1 W:=⟨_,rfl,AtV.new W1 _ _,(Below.refl _ _).alloc (Nat.le_refl _) _⟩
  have HRV:=Lib.hid hrv
  have HB2:=Lib.hid (HB1.out.trans (hb2.mono HB1.out.size))
  have H32:=Lib.hid (H31.out.kept hb2 H31.out.lt)
  have HIS2:=Lib.hid (HIS1.out.below hb2)
  have HR2:=Lib.hid (HR.out.1.keep (KeepS.of_below (S:=LtB B) hb2))
  clear hrv hb2
  obtain ⟨tb,htb⟩:∃ tb,W1.heap.size=tb:=⟨_,rfl⟩
  unfold relV MRel.agg
  go_upto_region 2 with (fail)
  rw [← hW2]
  rw [htb] at HRV
  try rw [htb]
  clear hW2 htb
  have q0:=HRV.out.at_ 0 _ rfl
  have q1:=HRV.out.at_ 1 _ rfl
  have q2:=HRV.out.at_ 2 _ rfl
  have q3:=HRV.out.at_ 3 _ rfl
  have q4:=HRV.out.at_ 4 _ rfl
  have q5:=HRV.out.at_ 5 _ rfl
  have q6:=HRV.out.at_ 6 _ rfl
  have q7:=HRV.out.at_ 7 _ rfl
  go_wp2_with fail
  refine (copiedRelease_any r B W2 HR2.out HR.out.2 (Nat.le_trans HLB.out HB2.out.size)).mono ?_
  rintro e W4 ⟨y,rfl,hp,hy,hb⟩
  have HB4:=Lib.hid (HB2.out.trans (hb.mono HB2.out.size))
  have H34:=Lib.hid (H32.out.kept hb H32.out.lt)
  have HY:Hid (RelOk W4 (fun b=>b≠rb+1+1) y):=hy.mono fun b hq _=>hq _ HIS2.out.lt (HIS2.out.not (by decide) (by have:=HLB.out; omega))
  have HPY:=Lib.hid hp
  clear hb hp hy q0 q1 q2 q3 q4 q5 q6 q7
  have z0:=H34.out.at_ 0 _ rfl
  have z1:=H34.out.at_ 1 _ rfl
  have z2:=H34.out.at_ 2 _ rfl
  have z3:=H34.out.at_ 3 _ rfl
  have z4:=H34.out.at_ 4 _ rfl
  have z5:=H34.out.at_ 5 _ rfl
  have z6:=H34.out.at_ 6 _ rfl
  have z7:=H34.out.at_ 7 _ rfl
  have hzl:rb+1+1<W4.heap.size:=H34.out.lt
  have hzf:=H34.out.fr
  unfold MRel.agg
  try dsimp only
  go_wp2
  have HA3:Hid (AtV ((((((((W4.setCell ⟨rb+1+1,0,none⟩ y.ver.v.a).setCell ⟨rb+1+1,1,none⟩ y.ver.v.b).setCell ⟨rb+1+1,2,none⟩ y.ver.v.c).setCell ⟨rb+1+1,3,none⟩ (.slice y.ver.A y.ver.v.pre.length y.ver.c)).setCell ⟨rb+1+1,4,none⟩ (.slice y.ver.B y.ver.v.build.length y.ver.d)).setCell ⟨rb+1+1,5,none⟩ (.bool y.yanked)).setCell ⟨rb+1+1,6,none⟩ (.slice y.N y.needs.length y.nc)).setCell ⟨rb+1+1,7,none⟩ (.slice y.B y.bans.length y.bc)) (rb+1+1) [.int .u64 y.ver.v.a,.int .u64 y.ver.v.b,.int .u64 y.ver.v.c,.slice y.ver.A y.ver.v.pre.length y.ver.c,.slice y.ver.B y.ver.v.build.length y.ver.d,.bool y.yanked,.slice y.N y.needs.length y.nc,.slice y.B y.bans.length y.bc]):=atv_fill H34.out [.int .u64 y.ver.v.a,.int .u64 y.ver.v.b,.int .u64 y.ver.v.c,.slice y.ver.A y.ver.v.pre.length y.ver.c,.slice y.ver.B y.ver.v.build.length y.ver.d,.bool y.yanked,.slice y.N y.needs.length y.nc,.slice y.B y.bans.length y.bc] 0 rfl
  have HB3:Hid (But (fun k=>k=rb+1+1) W4 ((((((((W4.setCell ⟨rb+1+1,0,none⟩ y.ver.v.a).setCell ⟨rb+1+1,1,none⟩ y.ver.v.b).setCell ⟨rb+1+1,2,none⟩ y.ver.v.c).setCell ⟨rb+1+1,3,none⟩ (.slice y.ver.A y.ver.v.pre.length y.ver.c)).setCell ⟨rb+1+1,4,none⟩ (.slice y.ver.B y.ver.v.build.length y.ver.d)).setCell ⟨rb+1+1,5,none⟩ (.bool y.yanked)).setCell ⟨rb+1+1,6,none⟩ (.slice y.N y.needs.length y.nc)).setCell ⟨rb+1+1,7,none⟩ (.slice y.B y.bans.length y.bc))):=but_fill W4 (rb+1+1) [.int .u64 y.ver.v.a,.int .u64 y.ver.v.b,.int .u64 y.ver.v.c,.slice y.ver.A y.ver.v.pre.length y.ver.c,.slice y.ver.B y.ver.v.build.length y.ver.d,.bool y.yanked,.slice y.N y.needs.length y.nc,.slice y.B y.bans.length y.bc] 0
  clear z0 z1 z2 z3 z4 z5 z6 z7 hzl hzf
  try simp only [Exit.jump]
  generalize ((((((((W4.setCell ⟨rb+1+1,0,none⟩ y.ver.v.a).setCell ⟨rb+1+1,1,none⟩ y.ver.v.b).setCell ⟨rb+1+1,2,none⟩ y.ver.v.c).setCell ⟨rb+1+1,3,none⟩ (.slice y.ver.A y.ver.v.pre.length y.ver.c)).setCell ⟨rb+1+1,4,none⟩ (.slice y.ver.B y.ver.v.build.length y.ver.d)).setCell ⟨rb+1+1,5,none⟩ (.bool y.yanked)).setCell ⟨rb+1+1,6,none⟩ (.slice y.N y.needs.length y.nc)).setCell ⟨rb+1+1,7,none⟩ (.slice y.B y.bans.length y.bc))=W5 at HA3 HB3 ⊢
  have y0:=HA3.out.at_ 0 _ rfl
  have y1:=HA3.out.at_ 1 _ rfl
  have y2:=HA3.out.at_ 2 _ rfl
  have y3:=HA3.out.at_ 3 _ rfl
  have y4:=HA3.out.at_ 4 _ rfl
  have y5:=HA3.out.at_ 5 _ rfl
  have y6:=HA3.out.at_ 6 _ rfl
  have y7:=HA3.out.at_ 7 _ rfl
  have hbw:Below w.heap.size w W5:=HB4.out.trans (HB3.out.below (B:=w.heap.size) (fun k e=>by omega) HB4.out.size)
  have hks:KeepS (fun b=>b≠rb+1+1) W4 W5:=keep_but HB3.out fun g hg e=>hg e
  refine bodyPost_ret (v:=.tuple #[.agg #[y.ver.v.a,y.ver.v.b,y.ver.v.c,.slice y.ver.A y.ver.v.pre.length y.ver.c,.slice y.ver.B y.ver.v.build.length y.ver.d,.bool y.yanked,.slice y.N y.needs.length y.nc,.slice y.B y.bans.length y.bc],.bool true]) (by simp [results,Tryz.results11,go_sem,y0,y1,y2,y3,y4,y5,y6,y7]) rfl ⟨y,?_,?_,(HY.out.keep hks).mono fun b _ hl=>hl,hbw⟩
  ·rw [HEQ.out]; rfl
  ·rw [HEQ.out]; exact HPY.out
end Go.Proofs.YtnpjklaaokiikaaGreatDoor.Copy
namespace Go.Proofs.YtnpjklaaokiikaaGreatDoor.Copy
open Go.RowKit Num Ident Semver Fr
open Range (Rng noRng RV Lies RgRow CellsAt KeepS LtB InS FitV)
open KR (KRow AtV)
open Model (MDep MVer MRel MPack DepOk VerOk RelOk PackOk DRow RRow PRow FewD FewRel FewX SlOk)
open Go.Sort (flatK HoldsK size_flatK)
section
variable {α:Type} [Inhabited α] {enc:α→List Value} {k:Nat} {w:World} {base g cap:Nat} {E:TypeId} {l:List α}
theorem own_holds (hk:∀ x,(enc x).length=k) (h0:0<k) (ho:w.ownsRow base E k (.slice (some ⟨g,0,none⟩) l.length cap) l.length (l.flatMap enc)):HoldsK enc k w g 0 l.toArray∧g<w.heap.size∧base≤g:=by
 have hown0:=ho
 rcases ho.2 with ⟨e,_⟩ | ⟨g',cap',cur,e,hg0,hg,hnc,hcm,hcs,htk⟩
 ·cases e
 ·injection e with e _ _
  injection e with e
  injection e with e
  subst e
  have hF:(flatK enc k l.toArray).toList=l.flatMap enc:=Span.flatK_list _ k hk h0 _
  refine ⟨?_,(Array.getElem?_eq_some_iff.1 hg).1,hg0⟩
  intro j hj
  have hj2:j<(flatK enc k l.toArray).size:=hj
  refine ⟨?_,by simp [World.frozen?,hg]⟩
  have e1:=hown0.cells (g:=g) rfl j _ (by rw [← hF,Array.getElem?_toList]; exact Array.getElem?_eq_getElem hj2)
  rw [add_none] at e1
  rw [e1,getElem!_pos _ j hj2]; rfl
theorem own_sorted (hk:∀ x,(enc x).length=k) (h0:0<k) (ho:w.ownsRow base E k (.slice (some ⟨g,0,none⟩) l.length cap) l.length (l.flatMap enc)) (m:Nat) (d:Array α) (os:Array Obj) (hd:d.size=l.length) :
  (sortWorldK enc k w g 0 m d os).ownsRow base E k (.slice (some ⟨g,0,none⟩) l.length cap) l.length (d.toList.flatMap enc):=by
 rcases ho.2 with ⟨e,_⟩ | ⟨g',cap',cur,e,hg0,hg,hnc,hcm,hcs,htk⟩
 ·cases e
 ·injection e with e _ e2
  injection e with e
  injection e with e
  subst e
  subst e2
  have hgl:g<w.heap.size:=(Array.getElem?_eq_some_iff.1 hg).1
  have hsz':(flatK enc k d).size=l.length * k:=by rw [size_flatK,hd]
  have hF':(flatK enc k d).toList=d.toList.flatMap enc:=Span.flatK_list _ k hk h0 _
  rw [← hF']
  refine ⟨by rw [Array.length_toList]; exact hsz',.inr ⟨g,cap,Go.Sort.putCells id 0 (flatK enc k d) cur,rfl,hg0,?_,hnc,hcm,by unfold Go.Sort.putCells; rw [Array.size_mapIdx]; exact hcs,?_⟩⟩
  ·unfold sortWorldK Go.Sort.putRowK Go.Sort.putRow Go.Sort.mapBlock Go.Sort.grow Go.Sort.ahead
   show ((w.heap.modify g _) ++ os)[g]?=_
   rw [Array.getElem?_append_left (by simpa using hgl),Array.getElem?_modify,if_pos rfl,hg]; rfl
  ·apply List.ext_getElem?
   intro t
   have hcs':l.length * k≤cur.size:=by rw [hcs]; exact Nat.mul_le_mul_right k hnc
   by_cases ht:t<l.length * k
   ·rw [List.getElem?_take_of_lt ht,Array.getElem?_toList,Array.getElem?_toList]
    unfold Go.Sort.putCells
    rw [Array.getElem?_mapIdx,Array.getElem?_eq_getElem (show t<cur.size by omega),Array.getElem?_eq_getElem (show t<(flatK enc k d).size by omega)]
    simp only [Option.map_some]
    rw [if_pos ⟨Nat.zero_le _,by omega⟩,Nat.sub_zero,getElem!_pos _ t (by omega)]; rfl
   ·rw [List.getElem?_eq_none (by rw [List.length_take]; omega),List.getElem?_eq_none (by rw [Array.length_toList,hsz']; omega)]
end
section
variable {α:Type} [Inhabited α] (lt:α→α→Bool)
theorem insInner_same (a:Nat) (d:Array α) (h:∀ i,i+1<d.size→(lt d[i+1]! d[i]!)=false):∀ j,j<d.size→Go.Sort.insInner lt a j d=d
 | 0,_=>rfl
 | j+1,hj=>by
  unfold Go.Sort.insInner
  rw [h j hj,Bool.and_false]; rfl
theorem insOuter_same (a b:Nat) (d:Array α) (hb:b≤d.size) (h:∀ i,i+1<d.size→(lt d[i+1]! d[i]!)=false):∀ (m i:Nat),b - i≤m→Go.Sort.insOuter lt a b i d=d
 | 0,i,hm=>by rw [Go.Sort.insOuter,if_neg (by omega)]
 | m+1,i,hm=>by
  rw [Go.Sort.insOuter]
  by_cases hi:i<b
  ·rw [if_pos hi,insInner_same lt a d h i (by omega)]
   exact insOuter_same a b d hb h m (i+1) (by omega)
  ·rw [if_neg hi]
theorem ins_list (le:α→α→Prop) (hS:Go.Sort.SWO lt) (hle:∀ x y,lt y x=false↔le x y) (l:List α):Model.SortOf le l (Go.Sort.insertionSort lt l.toArray 0 l.length).toList∧(Go.Sort.insertionSort lt l.toArray 0 l.length).size=l.length:=by
 obtain ⟨hp,hs⟩:=Go.Sort.insertionSort_holds hS l.toArray 0 l.length (Nat.zero_le _) (by simp)
 have hz:(Go.Sort.insertionSort lt l.toArray 0 l.length).size=l.length:=by have:=hp.1; simpa using this
 refine ⟨⟨?_,?_,fun h=>?_⟩,hz⟩
 ·have h1:=hp.2.2
  have e1:l.toArray.extract 0 l.length=l.toArray:=by simp
  have e2:(Go.Sort.insertionSort lt l.toArray 0 l.length).extract 0 l.length=Go.Sort.insertionSort lt l.toArray 0 l.length:=(fun (q:Array α) (h:q.size=l.length)=>(by rw [← h,Array.extract_size]:q.extract 0 l.length=q)) _ hz
  rw [e1,e2] at h1
  exact h1
 ·rw [List.pairwise_iff_getElem]
  intro i j hi hj hij
  have hi':i<(Go.Sort.insertionSort lt l.toArray 0 l.length).size:=by simpa using hi
  have hj':j<(Go.Sort.insertionSort lt l.toArray 0 l.length).size:=by simpa using hj
  have h1:=hs i j (Nat.zero_le _) hij (by rw [← hz]; exact hj')
  rw [getElem!_pos _ i hi',getElem!_pos _ j hj'] at h1
  exact (hle _ _).1 (by simpa using h1)
 ·unfold Go.Sort.insertionSort
  rw [insOuter_same lt 0 l.length l.toArray (by simp) (fun i hi=>?_) l.length _ (by omega)]
  have hi1:i+1<l.length:=by simpa using hi
  rw [getElem!_pos l.toArray (i+1) hi,getElem!_pos l.toArray i (by simp; omega)]
  have:=List.pairwise_iff_getElem.1 h i (i+1) (by omega) hi1 (by omega)
  exact (hle _ _).2 (by simpa using this)
end
end Go.Proofs.YtnpjklaaokiikaaGreatDoor.Copy
namespace Go.Proofs.YtnpjklaaokiikaaGreatDoor.Model
open Go.RowKit Num Ident Semver Fr
open Range (Rng noRng RV KeepS LtB LenOk goodR wt)
open KR (KRow AtV)
open Name (isName)
open Nrm (hasR)
theorem check_ne {x:List PPack} {q:Int × Int × Int × Int} (h:checkF x=some q):q.2.2.2≠0:=by
 unfold checkF at h
 split at h
 ·injection h with h; subst h; decide
 ·obtain ⟨p,hp,rfl⟩:=Option.map_eq_some_iff.1 h
  obtain ⟨k,y,hy⟩:=firstG_at _ _ _ _ hp
  unfold packF at hy
  split at hy
  ·injection hy with hy; rw [← hy]; decide
  ·split at hy
   ·injection hy with hy; rw [← hy]; decide
   ·obtain ⟨r,hr,e⟩:=Option.map_eq_some_iff.1 hy
    obtain ⟨k2,z,hz⟩:=firstG_at _ _ _ _ hr
    rw [← e]
    exact relF_ne hz
theorem check_e {x:List PPack}:((out4 (checkF x)).2.2.2 == 0)=(checkF x).isNone:=by
 cases h:checkF x with
 | none=>rfl
 | some q=>have:=check_ne h; show (q.2.2.2 == 0)=false; simpa using this
theorem roots_e {l:List PDep}:((out2 (rootsF l)).2 == 0)=(rootsF l).isNone:=by
 cases h:rootsF l with
 | none=>rfl
 | some q=>have:=rootsF_ne h; show (q.2 == 0)=false; simpa using this
theorem pins_e {l:List PPin}:((out2 (pinsF l)).2 == 0)=(pinsF l).isNone:=by
 cases h:pinsF l with
 | none=>rfl
 | some q=>have:=(firstE_some (g:=fun k p=>pinE l k p) h).1; show (q.2 == 0)=false; simpa using this
theorem right_any (A:Option Addr) (n c:Nat) (x:List MPack) (RA:Option Addr) (rn rc:Nat) (roots:List MDep) (SA:Option Addr) (m sc:Nat) (s:List MPin) (B:Nat) (w:World) (hx:PRow w (LtB B) A n x) (hr:DRow w (LtB B) RA rn roots) (hs:SPRow w (LtB B) SA m s) (hB:B≤w.heap.size) (hrn:rn≤maxLen) (hm:m≤1000) (hf:FewX x) (ht:Tab w) :
  Calls Tryz.prog 22 #[.agg #[.slice A n c],.slice RA rn rc,.slice SA m sc] w fun e w'=>e=.returned (.bool ((checkF (x.map MPack.p)).isNone && ((rootsF (roots.map MDep.p)).isNone && (pinsF (s.map MPin.p)).isNone)))∧Below w.heap.size w w':=by
 have HE:Hid (((out4 (checkF (x.map MPack.p))).2.2.2 == 0 && ((out2 (rootsF (roots.map MDep.p))).2 == 0 && (out2 (pinsF (s.map MPin.p))).2 == 0))=((checkF (x.map MPack.p)).isNone && ((rootsF (roots.map MDep.p)).isNone && (pinsF (s.map MPin.p)).isNone))):=by unfold Hid; rw [check_e,roots_e,pins_e]
 have HR:=Lib.hid hr
 have HS:=Lib.hid hs
 obtain ⟨W0,hW,hav,hb0⟩:∃ W,W=w.alloc (.cells #[.slice A n c] 24)∧AtV W w.heap.size [.slice A n c]∧Below w.heap.size w W:=⟨_,rfl,AtV.new w _ _,(Below.refl _ _).alloc (Nat.le_refl _) _⟩
 have HAV:=Lib.hid hav
 have HB0:=Lib.hid hb0
 have hck:=check_any A n c x B W0 (hx.keep (KeepS.of_below hb0)) (Nat.le_trans hB hb0.size) hf (ht.kept hb0)
 clear hav hb0 hx hr hs hf ht
 obtain ⟨bd,hbd⟩:∃ bd,w.heap.size=bd:=⟨_,rfl⟩
 go_enter Tryz.func22,Tryz.ntmps22
 go_upto_region 1 with (fail)
 rw [← hW]
 rw [hbd] at HAV
 clear hW
 have HBD:=Lib.hid hbd
 clear hbd
 have i0:=HAV.out.at_ 0 _ rfl
 go_wp2_with fail
 refine hck.mono ?_
 rintro e W1 ⟨rfl,hb⟩
 have HB1:=Lib.hid (HB0.out.trans (hb.mono HB0.out.size))
 clear hb i0 hck
 obtain ⟨⟨q1,q2,q3,q4⟩,hq⟩:∃ q,out4 (checkF (x.map MPack.p))=q:=⟨_,rfl⟩
 unfold checkV
 rw [hq] at HE ⊢
 clear hq
 go_upto_region 2 with (fail)
 have HB2:Hid (Below w.heap.size w (W1.alloc (.cells #[.int .i64 q1,.int .i64 q2,.int .i64 q3] 42))):=HB1.out.alloc HB1.out.size _
 generalize W1.alloc (.cells #[.int .i64 q1,.int .i64 q2,.int .i64 q3] 42)=W2 at HB2 ⊢
 go_wp2_with fail
 refine (roots_any RA rn rc roots B _ (HR.out.keep (KeepS.of_below HB2.out)) (Nat.le_trans hB HB2.out.size) hrn).mono ?_
 rintro e W3 ⟨rfl,hb⟩
 have HB3:=Lib.hid (HB2.out.trans (hb.mono HB2.out.size))
 clear hb
 obtain ⟨⟨r1,r2⟩,hq⟩:∃ q,out2 (rootsF (roots.map MDep.p))=q:=⟨_,rfl⟩
 unfold out2V
 rw [hq] at HE ⊢
 clear hq
 go_wp2_with fail
 refine (pins_any SA m sc s B _ (HS.out.keep (KeepS.of_below HB3.out)) (Nat.le_trans hB HB3.out.size) hm).mono ?_
 rintro e W4 ⟨rfl,hb⟩
 have HB4:=Lib.hid (HB3.out.trans (hb.mono HB3.out.size))
 clear hb
 obtain ⟨⟨p1,p2⟩,hq⟩:∃ q,out2 (pinsF (s.map MPin.p))=q:=⟨_,rfl⟩
 unfold out2V
 rw [hq] at HE ⊢
 clear hq
 by_cases h1:q4=0
 ·by_cases h2:r2=0
  ·by_cases h3:p2=0
   ·have HEQ:=Lib.hid (HE.out.symm.trans (by simp [h1,h2,h3]:_=true))
    go_wp2
    go_ret
    exact ⟨by rw [HEQ.out]; rfl,HB4.out⟩
   ·have HEQ:=Lib.hid (HE.out.symm.trans (by simp [h3]:_=false))
    have he3:(p2 == 0)=false:=by simpa using h3
    go_wp2
    go_ret
    exact ⟨by rw [HEQ.out]; rfl,HB4.out⟩
  ·have HEQ:=Lib.hid (HE.out.symm.trans (by simp [h2]:_=false))
   have he2:(r2 == 0)=false:=by simpa using h2
   go_wp2
   go_ret
   exact ⟨by rw [HEQ.out]; rfl,HB4.out⟩
 ·have HEQ:=Lib.hid (HE.out.symm.trans (by simp [h1]:_=false))
  have he1:(q4 == 0)=false:=by simpa using h1
  go_wp2
  go_ret
  exact ⟨by rw [HEQ.out]; rfl,HB4.out⟩
theorem rising_of (s:List MPin):chainB (fun a b=>decide (0≤Lib.compareBytes b.name a.name)) s=risingB (s.map MPin.p):=by
 have hc:∀ (f:PPin→PPin→Bool) (g:MPin→MPin→Bool) (h:∀ a b,g a b=f a.p b.p) (l:List MPin),chainB g l=chainB f (l.map MPin.p):=fun f g h l=>by
  induction l with
  | nil=>rfl
  | cons a l ih =>
   cases l with
   | nil=>rfl
   | cons b l =>
    show (g a b && chainB g (b :: l))=(f a.p b.p && chainB f ((b :: l).map MPin.p))
    rw [h,ih]
 refine hc _ _ (fun a b=>?_) s
 show decide (0≤Lib.compareBytes b.name a.name)=decide (¬ b.name<a.name)
 have:=cmp_less b.name a.name
 by_cases h:b.name<a.name
 ·rw [decide_eq_false (by have:=this.2 h; omega),decide_eq_false (fun q=>q h)]
 ·rw [decide_eq_true (by have:¬ Lib.compareBytes b.name a.name<0:=fun q=>h (this.1 q); omega),decide_eq_true h]
theorem rising_any (SA:Option Addr) (m sc:Nat) (s:List MPin) (S:Nat→Prop) (w:World) (hs:SPRow w S SA m s) (hm:m≤1000) :
  Calls Tryz.prog 23 #[.slice SA m sc] w fun e w'=>e=.returned (.bool (risingB (s.map MPin.p)))∧Below w.heap.size w w':=by
 have hso:=sortedPin_any SA m sc s 65 #[] (enters_of Tryz.func65 (by kernel_rfl) rfl) (fun x y=>Lib.compareBytes x.name y.name) S w hs.row (by omega) (fun W x y _ _ _=>(namesPin_any x y W).mono fun e w' ⟨he,hb⟩=>⟨he,hb.toBelow⟩)
 rw [rising_of] at hso
 clear hs
 go_enter Tryz.func23,Tryz.ntmps23
 go_wp2_with fail
 refine hso.mono ?_
 rintro e w' ⟨rfl,hb⟩
 have HB:=Lib.hid hb
 clear hb hso
 obtain ⟨q,hq⟩:∃ q,risingB (s.map MPin.p)=q:=⟨_,rfl⟩
 have HQ:=Lib.hid hq
 rw [hq]
 clear hq
 go_wp2
 go_ret
 exact ⟨by rw [HQ.out]; rfl,HB.out⟩
end Go.Proofs.YtnpjklaaokiikaaGreatDoor.Model
namespace Go.Proofs.YtnpjklaaokiikaaGreatDoor.Copy
open Go.RowKit Num Ident Semver Fr
open Range (Rng noRng RV Lies RgRow CellsAt KeepS LtB InS FitV)
open KR (KRow AtV)
open Model (MDep MVer MRel MPack DepOk VerOk RelOk PackOk DRow RRow PRow FewD FewRel FewX SlOk SortOf cb_lt namesPack_any byVersion_any)
open Go.Sort (flatK HoldsK size_flatK)
open Prec (fullV fullV_ordr Ordr)
def SortedPost {α:Type} (vals:α→List Value) (K:Nat) (E:TypeId) (le:α→α→Prop) (w:World) (base:Nat) (v:Value) (l:List α) (e:Ending) (w':World):Prop :=
 e=.returned (.tuple #[])∧∃ l':List α,SortOf le l l'∧w'.ownsRow base E K v l'.length (l'.flatMap vals)∧But (fun b=>v.ownBlock=some b) w w'
def nameLe (a b:MPack):Prop:=¬ b.name<a.name
def verLe (a b:MRel):Prop:=fullV a.ver.v b.ver.v≤0
def cfN (a b:MPack):Int:=Lib.compareBytes a.name b.name
theorem ltN (x y:MPack):ltOf cfN x y=decide (x.name<y.name):=decide_eq_decide.2 (cb_lt x.name y.name)
theorem swoN:Go.Sort.SWO (ltOf cfN):=by
 refine ⟨fun x=>?_,fun x y z h1 h2=>?_,fun x y z h1 h2=>?_⟩
 ·rw [ltN]; exact decide_eq_false (List.lt_irrefl _)
 ·rw [ltN,decide_eq_true_eq] at *; exact List.lt_trans h1 h2
 ·rw [ltN,decide_eq_false_iff_not] at *
  rw [Std.not_lt] at *
  exact Std.le_trans h2 h1
theorem leN (x y:MPack):ltOf cfN y x=false↔nameLe x y:=by rw [ltN,decide_eq_false_iff_not]; exact Iff.rfl
structure LaidR (w:World) (g:Nat) where
 r:MRel
 h:VerOk w (fun b=>b≠g) r.ver
theorem ver_default (w:World) (S:Nat→Prop):VerOk w S (default:MVer):=⟨⟨rfl,fun h=>absurd h (Nat.lt_irrefl _)⟩,⟨rfl,fun h=>absurd h (Nat.lt_irrefl _)⟩,(fun h=>absurd h (Nat.lt_irrefl _)),(fun h=>absurd h (Nat.lt_irrefl _)),Nat.le_refl _,Nat.le_refl _,Range.FitV.none⟩
instance (w:World) (g:Nat):Inhabited (LaidR w g):=⟨⟨default,ver_default w _⟩⟩
def cfR (w:World) (g:Nat) (a b:LaidR w g):Int:=fullV a.r.ver.v b.r.ver.v
theorem swoR (w:World) (g:Nat):Go.Sort.SWO (ltOf (cfR w g)):=by
 refine ⟨fun x=>?_,fun x y z h1 h2=>?_,fun x y z h1 h2=>?_⟩
 ·unfold ltOf cfR; rw [fullV_ordr.self]; rfl
 ·unfold ltOf cfR at *
  rw [decide_eq_true_eq] at *
  have a:=fullV_ordr.trans x.r.ver.v y.r.ver.v z.r.ver.v (by omega) (by omega)
  have b:=fullV_ordr.flip x.r.ver.v z.r.ver.v
  have c:=fullV_ordr.flip y.r.ver.v z.r.ver.v
  by_cases h:fullV x.r.ver.v z.r.ver.v=0
  ·have:=fullV_ordr.trans z.r.ver.v x.r.ver.v y.r.ver.v (by omega) (by omega)
   omega
  ·omega
 ·unfold ltOf cfR at *
  rw [decide_eq_false_iff_not] at *
  have a:=fullV_ordr.flip x.r.ver.v y.r.ver.v
  have b:=fullV_ordr.flip y.r.ver.v z.r.ver.v
  have c:=fullV_ordr.flip x.r.ver.v z.r.ver.v
  have:=fullV_ordr.trans z.r.ver.v y.r.ver.v x.r.ver.v (by omega) (by omega)
  omega
theorem leR (w:World) (g:Nat) (x y:LaidR w g):ltOf (cfR w g) y x=false↔verLe x.r y.r:=by
 unfold ltOf cfR verLe
 rw [decide_eq_false_iff_not]
 have:=fullV_ordr.flip x.r.ver.v y.r.ver.v
 omega
theorem insPack_own (base g cap:Nat) (l:List MPack) (w:World) (ho:w.ownsRow base 60 2 (.slice (some ⟨g,0,none⟩) l.length cap) l.length (l.flatMap MPack.vals)) (hn:l.length≤1000) :
  Calls Tryz.prog 138 #[.slice (some ⟨g,0,none⟩) l.length cap,.int .i64 0,.int .i64 l.length,.func (.func 37) #[] #[]] w (SortedPost MPack.vals 2 60 nameLe w base (.slice (some ⟨g,0,none⟩) l.length cap) l):=by
 obtain ⟨hH,hg,hbg⟩:=own_holds Model.pack_len (by omega) ho
 have hcmp:CmpLays Tryz.prog 37 #[] MPack.vals 2 cfN g 0 l.toArray.size w:=by
  intro m os dk _ x y
  rw [Array.append_empty]
  exact (namesPack_any x y _).mono fun e w' ⟨he,hd⟩=>⟨he,Span.grow_of hd⟩
 have hcon:=AnyQ.insertionSortCmpFunc Tryz.insP 2 Tryz.isAgg60 Tryz.sizeOf60 MPack.vals Model.pack_len onePack cfN 37 #[] g 0 cap 0 l.length l.toArray w (enters_of Tryz.func37 (by kernel_rfl) rfl) hcmp hH hg (Nat.zero_le _) (by simp) (by simp; omega)
 rw [List.size_toArray] at hcon
 refine hcon.mono fun e w' ⟨he,m,os,hw⟩=>⟨he,_,(ins_list (ltOf cfN) nameLe swoN leN l).1,?_,?_⟩
 ·have hz:=(ins_list (ltOf cfN) nameLe swoN leN l).2
  have hz2:(Go.Sort.insertionSort (ltOf cfN) l.toArray 0 l.length).toList.length=l.length:=by rw [Array.length_toList]; exact hz
  rw [hw]
  show (sortWorldK MPack.vals 2 w g 0 m (Go.Sort.insertionSort (ltOf cfN) l.toArray 0 l.length) os).ownsRow base 60 2 (.slice (some ⟨g,0,none⟩) l.length cap) (Go.Sort.insertionSort (ltOf cfN) l.toArray 0 l.length).toList.length ((Go.Sort.insertionSort (ltOf cfN) l.toArray 0 l.length).toList.flatMap MPack.vals)
  rw [hz2]
  exact own_sorted Model.pack_len (by omega) ho m _ os hz
 ·rw [hw]
  exact But.of_grown (Span.grown_sort _ _ _ _ _ _ _ _) fun b e=>e
theorem insRelease_own (base g cap:Nat) (l:List MRel) (w:World) (ho:w.ownsRow base 36 8 (.slice (some ⟨g,0,none⟩) l.length cap) l.length (l.flatMap MRel.vals)) (hn:l.length≤1000) (hl:∀ r ∈ l,VerOk w (fun b=>b≠g) r.ver) :
  Calls Tryz.prog 143 #[.slice (some ⟨g,0,none⟩) l.length cap,.int .i64 0,.int .i64 l.length,.func (.func 41) #[] #[]] w (SortedPost MRel.vals 8 36 verLe w base (.slice (some ⟨g,0,none⟩) l.length cap) l):=by
 obtain ⟨d,hd⟩:∃ d:List (LaidR w g),d.map LaidR.r=l:=⟨l.pmap (fun e h=>(⟨e,h⟩:LaidR w g)) hl,by simp [List.map_pmap]⟩
 have hdn:d.length=l.length:=by rw [← hd]; simp
 have hfl:∀ q:List (LaidR w g),q.flatMap (fun x=>x.r.vals)=(q.map LaidR.r).flatMap MRel.vals:=fun q=>by rw [List.flatMap_map]
 have ho':w.ownsRow base 36 8 (.slice (some ⟨g,0,none⟩) d.length cap) d.length (d.flatMap fun x=>x.r.vals):=by rw [hfl,hd,hdn]; exact ho
 have hk:∀ x:LaidR w g,(x.r.vals).length=8:=fun x=>Model.rel_len x.r
 obtain ⟨hH,hg,hbg⟩:=own_holds hk (by omega) ho'
 have hcmp:CmpLays Tryz.prog 41 #[] (fun x:LaidR w g=>x.r.vals) 8 (cfR w g) g 0 d.toArray.size w:=by
  intro m os dk _ x y
  rw [Array.append_empty]
  have hks:KeepS (fun b=>b≠g) w (sortWorldK (fun x:LaidR w g=>x.r.vals) 8 w g 0 m dk os):=keep_but (But.of_grown (T:=fun b=>b=g) (Span.grown_sort _ _ _ _ _ _ _ _) fun b e=>by injection e with e; exact e.symm) fun b hb e=>hb e
  exact (byVersion_any x.r y.r _ _ (x.h.keep hks) (y.h.keep hks)).mono fun e w' ⟨he,hd⟩=>⟨he,Span.grow_of hd⟩
 have hcon:=AnyQ.insertionSortCmpFunc Tryz.insR 8 Tryz.isAgg36 Tryz.sizeOf36 (fun x:LaidR w g=>x.r.vals) hk (fun x=>oneRelease x.r) (cfR w g) 41 #[] g 0 cap 0 d.length d.toArray w (enters_of Tryz.func41 (by kernel_rfl) rfl) hcmp hH hg (Nat.zero_le _) (by simp) (by simp; omega)
 rw [List.size_toArray,hdn] at hcon
 obtain ⟨h1,h2⟩:=ins_list (ltOf (cfR w g)) (fun a b=>verLe a.r b.r) (swoR w g) (leR w g) d
 rw [hdn] at h1 h2
 refine hcon.mono fun e w' ⟨he,m,os,hw⟩=>⟨he,(Go.Sort.insertionSort (ltOf (cfR w g)) d.toArray 0 l.length).toList.map LaidR.r,⟨?_,?_,fun h=>?_⟩,?_,?_⟩
 ·have:=h1.perm.map LaidR.r
  rwa [hd] at this
 ·rw [List.pairwise_map]; exact h1.up
 ·rw [h1.same (by rw [← hd,List.pairwise_map] at h; exact h)]; exact hd
 ·have hz2:((Go.Sort.insertionSort (ltOf (cfR w g)) d.toArray 0 l.length).toList.map LaidR.r).length=l.length:=by rw [List.length_map,Array.length_toList]; exact h2
  rw [hw]
  show (sortWorldK (fun x:LaidR w g=>x.r.vals) 8 w g 0 m (Go.Sort.insertionSort (ltOf (cfR w g)) d.toArray 0 l.length) os).ownsRow base 36 8 (.slice (some ⟨g,0,none⟩) l.length cap) ((Go.Sort.insertionSort (ltOf (cfR w g)) d.toArray 0 l.length).toList.map LaidR.r).length (((Go.Sort.insertionSort (ltOf (cfR w g)) d.toArray 0 l.length).toList.map LaidR.r).flatMap MRel.vals)
  rw [hz2,← hfl]
  have h5:=own_sorted hk (by omega) ho' m (Go.Sort.insertionSort (ltOf (cfR w g)) d.toArray 0 l.length) os (by rw [hdn]; exact h2)
  rw [hdn] at h5
  exact h5
 ·rw [hw]
  exact But.of_grown (Span.grown_sort _ _ _ _ _ _ _ _) fun b e=>e
end Go.Proofs.YtnpjklaaokiikaaGreatDoor.Copy
