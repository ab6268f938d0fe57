/-
  What the theorem of the last text needs of these: MoCheckAny, MoSortT, MoRelB, MoSortU. Conditions: as each theorem states.
-/
import Derived.Test.YtgakcdcfblgagaaGreatDoorRoA1
import Derived.Test.YtgakcdcfblgagaaGreatDoorRoA28
import Derived.Test.YtgakcdcfblgagaaGreatDoorRoA30
set_option maxRecDepth 100000
set_option maxHeartbeats 25600000
namespace Go.Proofs.YtgakcdcfblgagaaGreatDoor.Model
open Go.RowKit Num Ident Semver Fr
open Range (Rng noRng RV KeepS LtB LenOk goodR wt)
open KR (KRow AtV)
open Name (isName)

theorem chk_made (w:World) (A:Option Addr) (n c:Nat):∃ W,W=(((w.alloc (.cells #[.slice A n c] 26)).alloc (.cells #[.int .i64 (-1),.int .i64 (-1),.int .i64 (-1)] 104)).alloc (.map #[] 0)).alloc (.cells #[.map (some (w.heap.size+1+1))] 178)∧AtV W w.heap.size [.slice A n c]∧AtV W (w.heap.size+1) [.int .i64 (-1),.int .i64 (-1),.int .i64 (-1)]∧SeenAt W (w.heap.size+1+1) []∧AtV W (w.heap.size+1+1+1) [.map (some (w.heap.size+1+1))]∧Below w.heap.size w W:=by
 obtain ⟨V1,hV1⟩:∃ V,V=w.alloc (.cells #[.slice A n c] 26):=⟨_,rfl⟩
 have a1:AtV V1 w.heap.size [.slice A n c]:=by rw [hV1]; exact AtV.new w _ _
 have z1:V1.heap.size=w.heap.size+1:=by rw [hV1]; simp
 have b1:Below w.heap.size w V1:=by rw [hV1]; exact (Below.refl _ _).alloc (Nat.le_refl _) _
 obtain ⟨V2,hV2⟩:∃ V,V=V1.alloc (.cells #[.int .i64 (-1),.int .i64 (-1),.int .i64 (-1)] 104):=⟨_,rfl⟩
 have k2:Below V1.heap.size V1 V2:=by rw [hV2]; exact (Below.refl _ _).alloc (Nat.le_refl _) _
 have a2:AtV V2 (w.heap.size+1) [.int .i64 (-1),.int .i64 (-1),.int .i64 (-1)]:=by rw [hV2,← z1]; exact AtV.new V1 _ _
 have z2:V2.heap.size=w.heap.size+1+1:=by rw [hV2]; simp [z1]
 obtain ⟨V3,hV3⟩:∃ V,V=V2.alloc (.map #[] 0):=⟨_,rfl⟩
 have k3:Below V2.heap.size V2 V3:=by rw [hV3]; exact (Below.refl _ _).alloc (Nat.le_refl _) _
 have a3:SeenAt V3 (w.heap.size+1+1) []:=by rw [hV3,← z2]; exact SeenAt.made V2
 have z3:V3.heap.size=w.heap.size+1+1+1:=by rw [hV3]; simp [z2]
 obtain ⟨V4,hV4⟩:∃ V,V=V3.alloc (.cells #[.map (some (w.heap.size+1+1))] 178):=⟨_,rfl⟩
 have k4:Below V3.heap.size V3 V4:=by rw [hV4]; exact (Below.refl _ _).alloc (Nat.le_refl _) _
 have a4:AtV V4 (w.heap.size+1+1+1) [.map (some (w.heap.size+1+1))]:=by rw [hV4,← z3]; exact AtV.new V3 _ _
 refine ⟨V4,by rw [hV4,hV3,hV2,hV1],((a1.kept k2 (by omega)).kept k3 (by omega)).kept k4 (by omega),(a2.kept k3 (by omega)).kept k4 (by omega),a3.kept k4 (by omega),a4,b1.trans ((k2.trans ((k3.trans (k4.mono (by omega))).mono (by omega))).mono (by omega))⟩
def nms (l:List MPack) (k:Nat):List (List UInt8):=(l.take k).map MPack.name
theorem nms_snoc {l:List MPack} {k:Nat} (h:k<l.length):nms l (k+1)=nms l k ++ [(l.getD k default).name]:=take_map_snoc MPack.name l h
theorem nameB_nms {l:List MPack} {k:Nat} (hk:k<l.length):(l.getD k default).p.name ∈ nms l k↔nameB PPack.name (l.map MPack.p) k=true:=by
 rw [nameB_iff,map_at MPack.p l hk]
 unfold nms
 rw [← List.map_take,List.map_map]
 exact Iff.rfl
theorem chk_first (x:List MPack) (A:Option Addr) (n c:Nat) (B zb:Nat) (w W:World) (hx:PRow w (LtB B) A n x) (hf:FewX x) (ht:Tab w) (hB:B≤zb) (hzb:zb=w.heap.size) (hb:Below w.heap.size w W) (h2:AtV W (zb+1) [.int .i64 (-1),.int .i64 (-1),.int .i64 (-1)]) (h3:SeenAt W (zb+1+1) []) (h4:AtV W (zb+1+1+1) [.map (some (zb+1+1))]) :
  Calls Tryz.prog 104 #[.slice A n c,.func (.func 105) #[] #[.pointer (some ⟨zb+1+1+1,0,none⟩),.pointer (some ⟨zb+1,0,none⟩)]] W fun e w'=>∃ a q1 q2 f:Int,e=.returned (.tuple #[.int .i64 a,.int .i64 f])∧AtV w' (zb+1) [.int .i64 (-1),.int .i64 q1,.int .i64 q2]∧Below w.heap.size w w'∧out4 (checkF (x.map MPack.p))=(a,q1,q2,f):=by
 have hlx:=hx.row.1
 have hfl:=hf.len
 have hrow:∀ W',But (fun b=>b=zb+1+1∨b=zb+1) W W'→PRow W' (LtB B) A n x:=fun W' hw=>(hx.keep (KeepS.of_below hb)).keep (keepS_but hw fun g hg e=>by have hg:g<B:=hg; omega)
 refine (firstPack_any 105 #[.pointer (some ⟨zb+1+1+1,0,none⟩),.pointer (some ⟨zb+1,0,none⟩)] (enters_of Tryz.func105 (by kernel_rfl) rfl) A n c x
  (fun k=>(packK (nms x k) (x.getD k default).p).2.2)
  (fun k W'=>SeenAt W' (zb+1+1) (nms x k)∧AtV W' (zb+1) [.int .i64 (-1),.int .i64 (-1),.int .i64 (-1)]∧But (fun b=>b=zb+1+1∨b=zb+1) W W')
  (fun k W'=>AtV W' (zb+1) [.int .i64 (-1),.int .i64 (packK (nms x k) (x.getD k default).p).1,.int .i64 (packK (nms x k) (x.getD k default).p).2.1]∧But (fun b=>b=zb+1+1∨b=zb+1) W W') (LtB B) W (by unfold maxLen; omega)
  (fun k W' _ hI=>hrow W' hI.2.2) (fun k W' hk hI=>?_) ⟨h3,h2,But.refl _ _⟩).mono ?_
 ·have hkl:k<x.length:=by omega
  have hm:=hx.row.mem hk
  refine (pack1_any (x.getD k default) (zb+1+1+1) (zb+1) (zb+1+1) (nms x k) B W' ((hrow W' hI.2.2).ok _ hm) (fun r hr=>hf.rel _ hm r hr) (hf.pack _ hm).2 (h4.but hI.2.2 (by omega)) hI.2.1 hI.1 (by unfold nms; simp; omega) ⟨by omega,by omega,by omega⟩ ⟨by omega,by omega⟩ (by have:=hb.size; have:=hI.2.2.size; omega) w ht (hb.trans (hI.2.2.below (B:=w.heap.size) (fun k e=>by omega) hb.size)) ⟨by omega,by omega⟩).mono ?_
  rintro e w' ⟨ho,hd,hs,hbt⟩
  refine ⟨ho,fun h0=>⟨?_,?_,hI.2.2.then_ hbt⟩,fun _=>⟨hd,hI.2.2.then_ hbt⟩⟩
  ·rw [nms_snoc hkl]; exact hs h0
  ·have:=(packK_zero h0).1
   rw [this] at hd; exact hd
 ·intro e w' hp2
  have rel:∀ k,k<n→packF (x.map MPack.p) k ((x.map MPack.p).getD k default)=if (packK (nms x k) (x.getD k default).p).2.2=0 then none else some (packK (nms x k) (x.getD k default).p):=fun k hk=>by
   rw [map_at MPack.p x (by omega)]
   exact packK_some (nameB_nms (by omega))
  have len:(x.map MPack.p).length=n:=by rw [List.length_map]; exact hlx
  have hfull:checkF (x.map MPack.p)=(firstG (packF (x.map MPack.p)) 0 (x.map MPack.p)).map fun q=>((q.1:Int),q.2.1,q.2.2.1,q.2.2.2):=by unfold checkF; rw [if_neg (by omega)]
  rw [hfull]
  rcases hp2 with ⟨k,hk,ha,hne,he,hd,hbt⟩ | ⟨ha,he,_,hd,hbt⟩
  ·refine ⟨_,_,_,_,he,hd,hb.trans (hbt.below (B:=w.heap.size) (fun k e=>by omega) hb.size),?_⟩
   have e1:=firstG_stop (packF (x.map MPack.p)) (x.map MPack.p) 0 k _ (by omega) (fun j hj=>by
    rw [Nat.zero_add,rel j (by omega),if_pos (ha j hj)]) (by
    rw [Nat.zero_add,rel k hk,if_neg hne])
   rw [e1,Nat.zero_add]; rfl
  ·refine ⟨_,_,_,_,he,hd,hb.trans (hbt.below (B:=w.heap.size) (fun k e=>by omega) hb.size),?_⟩
   have e1:=firstG_none (packF (x.map MPack.p)) (x.map MPack.p) 0 (fun j hj=>by
    rw [Nat.zero_add,rel j (by omega),if_pos (ha j (by omega))])
   rw [e1]; rfl
theorem check_any (A:Option Addr) (n c:Nat) (x:List MPack) (B:Nat) (w:World) (hx:PRow w (LtB B) A n x) (hB:B≤w.heap.size) (hf:FewX x) (ht:Tab w) :
  Calls Tryz.prog 51 #[.agg #[.slice A n c]] w fun e w'=>e=.returned (checkV (checkF (x.map MPack.p)))∧Below w.heap.size w w':=by
 obtain ⟨W,hW,h1,h2,h3,h4,hb⟩:=chk_made w A n c
 obtain ⟨zb,hzb⟩:∃ zb,w.heap.size=zb:=⟨_,rfl⟩
 rw [hzb] at hW h1 h2 h3 h4
 have hfst:=chk_first x A n c B zb w W hx hf ht (by omega) hzb.symm hb h2 h3 h4
 have H1:=Lib.hid h1
 have HPB:=Lib.hid hzb
 have hn6:n≤6:=by have:=hx.row.1; have:=hf.len; omega
 clear h1 h2 h3 h4 hb hx hf ht
 have hmm:=@run_makeMap Tryz.prog
 go_enter Tryz.func51,Tryz.ntmps51
 go_upto_region 5 with (fail)
 rw [← hW]
 clear hW hzb hmm hB
 have c0:=H1.out.at_ 0 _ rfl
 go_wp2_with fail
 refine hfst.mono ?_
 rintro e W2 ⟨a,q1,q2,f,rfl,hd,hb,hq⟩
 clear hfst c0
 have HQ:=Lib.hid hq
 have HB2:=Lib.hid hb
 have HD2:=Lib.hid hd
 clear hq hb hd
 have d0:=HD2.out.at_ 0 _ rfl
 have d1:=HD2.out.at_ 1 _ rfl
 have d2:=HD2.out.at_ 2 _ rfl
 have hdl:zb+1<W2.heap.size:=HD2.out.lt
 have hdf:=HD2.out.fr
 go_upto_region 6 with (fail)
 have HD3:Hid (AtV (W2.setCell ⟨zb+1,0,none⟩ (.int .i64 a)) (zb+1) [.int .i64 a,.int .i64 q1,.int .i64 q2]):=HD2.out.set 0 (.int .i64 a) (by simp)
 have HB3:Hid (Below w.heap.size w (W2.setCell ⟨zb+1,0,none⟩ (.int .i64 a))):=HB2.out.setCell (p:=⟨zb+1,0,none⟩) (by have:=HPB.out; show w.heap.size≤zb+1; omega) _
 clear d0 d1 d2 hdl hdf
 generalize W2.setCell ⟨zb+1,0,none⟩ (.int .i64 a)=W3 at HD3 HB3 ⊢
 have d0:=HD3.out.at_ 0 _ rfl
 have d1:=HD3.out.at_ 1 _ rfl
 have d2:=HD3.out.at_ 2 _ rfl
 have hdl:zb+1<W3.heap.size:=HD3.out.lt
 have hdf:=HD3.out.fr
 go_wp2
 have hle:w.heap.size≤zb+1:=by have:=HPB.out; omega
 refine bodyPost_ret (v:=.tuple #[.agg #[.int .i64 a,.int .i64 q1,.int .i64 q2],.int .i64 f]) (by simp [results,Tryz.results51,go_sem,d0,d1,d2]) rfl ⟨by unfold checkV; rw [HQ.out],((HB3.out.setCell (p:=⟨zb+1,0,none⟩) hle _).setCell (p:=⟨zb+1,1,none⟩) hle _).setCell (p:=⟨zb+1,2,none⟩) hle _⟩
end Go.Proofs.YtgakcdcfblgagaaGreatDoor.Model
namespace Go.Proofs.YtgakcdcfblgagaaGreatDoor.Copy
open Go.RowKit Num Ident Semver Fr
open Range (Rng noRng RV Lies RgRow CellsAt KeepS LtB InS FitV)
open KR (KRow AtV)
open Model (MDep MVer MRel MPack DepOk VerOk RelOk PackOk DRow RRow PRow FewD FewRel FewX SlOk SortOf cb_lt namesPack_any byVersion_any)
open Go.Sort (flatK HoldsK size_flatK)
open Prec (fullV fullV_ordr Ordr)
def SortedPost {α:Type} (vals:α→List Value) (K:Nat) (E:TypeId) (le:α→α→Prop) (w:World) (base:Nat) (v:Value) (l:List α) (e:Ending) (w':World):Prop :=
 e=.returned (.tuple #[])∧∃ l':List α,SortOf le l l'∧w'.ownsRow base E K v l'.length (l'.flatMap vals)∧But (fun b=>v.ownBlock=some b) w w'
def nameLe (a b:MPack):Prop:=¬ b.name<a.name
def verLe (a b:MRel):Prop:=fullV a.ver.v b.ver.v≤0
def cfN (a b:MPack):Int:=Lib.compareBytes a.name b.name
theorem ltN (x y:MPack):ltOf cfN x y=decide (x.name<y.name):=decide_eq_decide.2 (cb_lt x.name y.name)
theorem swoN:Go.Sort.SWO (ltOf cfN):=by
 refine ⟨fun x=>?_,fun x y z h1 h2=>?_,fun x y z h1 h2=>?_⟩
 ·rw [ltN]; exact decide_eq_false (List.lt_irrefl _)
 ·rw [ltN,decide_eq_true_eq] at *; exact List.lt_trans h1 h2
 ·rw [ltN,decide_eq_false_iff_not] at *
  rw [Std.not_lt] at *
  exact Std.le_trans h2 h1
theorem leN (x y:MPack):ltOf cfN y x=false↔nameLe x y:=by rw [ltN,decide_eq_false_iff_not]; exact Iff.rfl
structure LaidR (w:World) (g:Nat) where
 r:MRel
 h:VerOk w (fun b=>b≠g) r.ver
theorem ver_default (w:World) (S:Nat→Prop):VerOk w S (default:MVer):=⟨⟨rfl,fun h=>absurd h (Nat.lt_irrefl _)⟩,⟨rfl,fun h=>absurd h (Nat.lt_irrefl _)⟩,(fun h=>absurd h (Nat.lt_irrefl _)),(fun h=>absurd h (Nat.lt_irrefl _)),Nat.le_refl _,Nat.le_refl _,Range.FitV.none⟩
instance (w:World) (g:Nat):Inhabited (LaidR w g):=⟨⟨default,ver_default w _⟩⟩
def cfR (w:World) (g:Nat) (a b:LaidR w g):Int:=fullV a.r.ver.v b.r.ver.v
theorem swoR (w:World) (g:Nat):Go.Sort.SWO (ltOf (cfR w g)):=by
 refine ⟨fun x=>?_,fun x y z h1 h2=>?_,fun x y z h1 h2=>?_⟩
 ·unfold ltOf cfR; rw [fullV_ordr.self]; rfl
 ·unfold ltOf cfR at *
  rw [decide_eq_true_eq] at *
  have a:=fullV_ordr.trans x.r.ver.v y.r.ver.v z.r.ver.v (by omega) (by omega)
  have b:=fullV_ordr.flip x.r.ver.v z.r.ver.v
  have c:=fullV_ordr.flip y.r.ver.v z.r.ver.v
  by_cases h:fullV x.r.ver.v z.r.ver.v=0
  ·have:=fullV_ordr.trans z.r.ver.v x.r.ver.v y.r.ver.v (by omega) (by omega)
   omega
  ·omega
 ·unfold ltOf cfR at *
  rw [decide_eq_false_iff_not] at *
  have a:=fullV_ordr.flip x.r.ver.v y.r.ver.v
  have b:=fullV_ordr.flip y.r.ver.v z.r.ver.v
  have c:=fullV_ordr.flip x.r.ver.v z.r.ver.v
  have:=fullV_ordr.trans z.r.ver.v y.r.ver.v x.r.ver.v (by omega) (by omega)
  omega
theorem leR (w:World) (g:Nat) (x y:LaidR w g):ltOf (cfR w g) y x=false↔verLe x.r y.r:=by
 unfold ltOf cfR verLe
 rw [decide_eq_false_iff_not]
 have:=fullV_ordr.flip x.r.ver.v y.r.ver.v
 omega
theorem insPack_own (base g cap:Nat) (l:List MPack) (w:World) (ho:w.ownsRow base 48 2 (.slice (some ⟨g,0,none⟩) l.length cap) l.length (l.flatMap MPack.vals)) (hn:l.length≤1000) :
  Calls Tryz.prog 153 #[.slice (some ⟨g,0,none⟩) l.length cap,.int .i64 0,.int .i64 l.length,.func (.func 45) #[] #[]] w (SortedPost MPack.vals 2 48 nameLe w base (.slice (some ⟨g,0,none⟩) l.length cap) l):=by
 obtain ⟨hH,hg,hbg⟩:=own_holds Model.pack_len (by omega) ho
 have hcmp:CmpLays Tryz.prog 45 #[] MPack.vals 2 cfN g 0 l.toArray.size w:=by
  intro m os dk _ x y
  rw [Array.append_empty]
  exact (namesPack_any x y _).mono fun e w' ⟨he,hd⟩=>⟨he,Span.grow_of hd⟩
 have hcon:=AnyQ.insertionSortCmpFunc Tryz.insP 2 Tryz.isAgg48 Tryz.sizeOf48 MPack.vals Model.pack_len onePack cfN 45 #[] g 0 cap 0 l.length l.toArray w (enters_of Tryz.func45 (by kernel_rfl) rfl) hcmp hH hg (Nat.zero_le _) (by simp) (by simp; omega)
 rw [List.size_toArray] at hcon
 refine hcon.mono fun e w' ⟨he,m,os,hw⟩=>⟨he,_,(ins_list (ltOf cfN) nameLe swoN leN l).1,?_,?_⟩
 ·have hz:=(ins_list (ltOf cfN) nameLe swoN leN l).2
  have hz2:(Go.Sort.insertionSort (ltOf cfN) l.toArray 0 l.length).toList.length=l.length:=by rw [Array.length_toList]; exact hz
  rw [hw]
  show (sortWorldK MPack.vals 2 w g 0 m (Go.Sort.insertionSort (ltOf cfN) l.toArray 0 l.length) os).ownsRow base 48 2 (.slice (some ⟨g,0,none⟩) l.length cap) (Go.Sort.insertionSort (ltOf cfN) l.toArray 0 l.length).toList.length ((Go.Sort.insertionSort (ltOf cfN) l.toArray 0 l.length).toList.flatMap MPack.vals)
  rw [hz2]
  exact own_sorted Model.pack_len (by omega) ho m _ os hz
 ·rw [hw]
  exact But.of_grown (Span.grown_sort _ _ _ _ _ _ _ _) fun b e=>e
theorem insRelease_own (base g cap:Nat) (l:List MRel) (w:World) (ho:w.ownsRow base 46 8 (.slice (some ⟨g,0,none⟩) l.length cap) l.length (l.flatMap MRel.vals)) (hn:l.length≤1000) (hl:∀ r ∈ l,VerOk w (fun b=>b≠g) r.ver) :
  Calls Tryz.prog 159 #[.slice (some ⟨g,0,none⟩) l.length cap,.int .i64 0,.int .i64 l.length,.func (.func 49) #[] #[]] w (SortedPost MRel.vals 8 46 verLe w base (.slice (some ⟨g,0,none⟩) l.length cap) l):=by
 obtain ⟨d,hd⟩:∃ d:List (LaidR w g),d.map LaidR.r=l:=⟨l.pmap (fun e h=>(⟨e,h⟩:LaidR w g)) hl,by simp [List.map_pmap]⟩
 have hdn:d.length=l.length:=by rw [← hd]; simp
 have hfl:∀ q:List (LaidR w g),q.flatMap (fun x=>x.r.vals)=(q.map LaidR.r).flatMap MRel.vals:=fun q=>by rw [List.flatMap_map]
 have ho':w.ownsRow base 46 8 (.slice (some ⟨g,0,none⟩) d.length cap) d.length (d.flatMap fun x=>x.r.vals):=by rw [hfl,hd,hdn]; exact ho
 have hk:∀ x:LaidR w g,(x.r.vals).length=8:=fun x=>Model.rel_len x.r
 obtain ⟨hH,hg,hbg⟩:=own_holds hk (by omega) ho'
 have hcmp:CmpLays Tryz.prog 49 #[] (fun x:LaidR w g=>x.r.vals) 8 (cfR w g) g 0 d.toArray.size w:=by
  intro m os dk _ x y
  rw [Array.append_empty]
  have hks:KeepS (fun b=>b≠g) w (sortWorldK (fun x:LaidR w g=>x.r.vals) 8 w g 0 m dk os):=keep_but (But.of_grown (T:=fun b=>b=g) (Span.grown_sort _ _ _ _ _ _ _ _) fun b e=>by injection e with e; exact e.symm) fun b hb e=>hb e
  exact (byVersion_any x.r y.r _ _ (x.h.keep hks) (y.h.keep hks)).mono fun e w' ⟨he,hd⟩=>⟨he,Span.grow_of hd⟩
 have hcon:=AnyQ.insertionSortCmpFunc Tryz.insR 8 Tryz.isAgg46 Tryz.sizeOf46 (fun x:LaidR w g=>x.r.vals) hk (fun x=>oneRelease x.r) (cfR w g) 49 #[] g 0 cap 0 d.length d.toArray w (enters_of Tryz.func49 (by kernel_rfl) rfl) hcmp hH hg (Nat.zero_le _) (by simp) (by simp; omega)
 rw [List.size_toArray,hdn] at hcon
 obtain ⟨h1,h2⟩:=ins_list (ltOf (cfR w g)) (fun a b=>verLe a.r b.r) (swoR w g) (leR w g) d
 rw [hdn] at h1 h2
 refine hcon.mono fun e w' ⟨he,m,os,hw⟩=>⟨he,(Go.Sort.insertionSort (ltOf (cfR w g)) d.toArray 0 l.length).toList.map LaidR.r,⟨?_,?_,fun h=>?_⟩,?_,?_⟩
 ·have:=h1.perm.map LaidR.r
  rwa [hd] at this
 ·rw [List.pairwise_map]; exact h1.up
 ·rw [h1.same (by rw [← hd,List.pairwise_map] at h; exact h)]; exact hd
 ·have hz2:((Go.Sort.insertionSort (ltOf (cfR w g)) d.toArray 0 l.length).toList.map LaidR.r).length=l.length:=by rw [List.length_map,Array.length_toList]; exact h2
  rw [hw]
  show (sortWorldK (fun x:LaidR w g=>x.r.vals) 8 w g 0 m (Go.Sort.insertionSort (ltOf (cfR w g)) d.toArray 0 l.length) os).ownsRow base 46 8 (.slice (some ⟨g,0,none⟩) l.length cap) ((Go.Sort.insertionSort (ltOf (cfR w g)) d.toArray 0 l.length).toList.map LaidR.r).length (((Go.Sort.insertionSort (ltOf (cfR w g)) d.toArray 0 l.length).toList.map LaidR.r).flatMap MRel.vals)
  rw [hz2,← hfl]
  have h5:=own_sorted hk (by omega) ho' m (Go.Sort.insertionSort (ltOf (cfR w g)) d.toArray 0 l.length) os (by rw [hdn]; exact h2)
  rw [hdn] at h5
  exact h5
 ·rw [hw]
  exact But.of_grown (Span.grown_sort _ _ _ _ _ _ _ _) fun b e=>e
end Go.Proofs.YtgakcdcfblgagaaGreatDoor.Copy
namespace Go.Proofs.YtgakcdcfblgagaaGreatDoor.Copy
open Go.RowKit Num Ident Semver Fr
open Range (Rng noRng RV Lies RgRow CellsAt KeepS LtB InS FitV)
open KR (KRow AtV)
open Model (MDep MVer MRel MPack MPin PRel DepOk VerOk RelOk PackOk PinOk DRow RRow PRow FewD FewRel FewX SlOk findRel findRel_p findRel_in find_any relV releaseO)
theorem rel_default_any (w:World) (S:Nat→Prop):RelOk w S (default:MRel) :=
 ⟨⟨⟨rfl,fun h=>absurd h (Nat.lt_irrefl _)⟩,⟨rfl,fun h=>absurd h (Nat.lt_irrefl _)⟩,(fun h=>absurd h (Nat.lt_irrefl _)),(fun h=>absurd h (Nat.lt_irrefl _)),Nat.le_refl _,Nat.le_refl _,Range.FitV.none⟩,Model.DRow.none_ _ _,Model.DRow.none_ _ _,⟨Nat.le_refl _,by unfold maxLen; exact Nat.zero_le _⟩,⟨Nat.le_refl _,by unfold maxLen; exact Nat.zero_le _⟩,fun _=>rfl,fun _=>rfl⟩
def RelPostB (x:List MPack) (name:List UInt8) (v:Ver) (w:World) (B2:Nat) (e:Ending) (w':World):Prop :=
 ∃ r:MRel,e=.returned (.tuple #[r.agg,.bool (releaseO (x.map MPack.p) name v).isSome])∧r.p=(releaseO (x.map MPack.p) name v).getD default∧RelOk w' (Aside w B2) r∧Below w.heap.size w w'
theorem releaseB_any (A:Option Addr) (n c:Nat) (x:List MPack) (name:List UInt8) (v:MVer) (B:Nat) (w:World) (h:PRow w (LtB B) A n x) (hv:VerOk w (LtB B) v) (hB:B≤w.heap.size) (hs:SlOk A n c) (hf:FewX x) (hn:name.length≤300) (B2:Nat) (h2:∀ p ∈ x,∀ r ∈ p.rels,RelOk w (LtB B2) r) (hB2:B2≤w.heap.size) :
  Calls Tryz.prog 56 #[.agg #[.slice A n c],.string (Ident.mk name),v.agg] w (RelPostB x name v.v w B2):=by
 obtain ⟨W0,hW,h1,h2v,h3,hb,hsz,his⟩:=three_new w [.slice A n c] [.int .u64 v.v.a,.int .u64 v.v.b,.int .u64 v.v.c,.slice v.A v.v.pre.length v.c,.slice v.B v.v.build.length v.d] [.int .u64 0,.int .u64 0,.int .u64 0,.slice none 0 0,.slice none 0 0,.bool false,.slice none 0 0,.slice none 0 0] 26 37 46
 have H1:=Lib.hid h1
 have H2:=Lib.hid h2v
 have HQ:=Lib.hid (fun p hp r hr=>(h2 p hp r hr).keep (KeepS.of_below (S:=LtB B2) hb))
 have HB22:=Lib.hid hB2
 have H3:=Lib.hid h3
 have HB:=Lib.hid hb
 have HS:=Lib.hid hsz
 have HIS:=Lib.hid his
 have HX:=Lib.hid (h.keep (KeepS.of_below (S:=LtB B) hb))
 have HP:Hid (PinOk W0 (LtB B) ⟨name,v⟩):=⟨by show name.length≤maxLen; unfold maxLen; omega,hv.keep (KeepS.of_below hb)⟩
 have HLB:=Lib.hid hB
 have HF:=Lib.hid hf
 have HSL:=Lib.hid hs
 clear his h1 h2v h2 h3 hb hsz h hv hB hf hs hn hB2
 obtain ⟨rb,hrb⟩:∃ rb,w.heap.size=rb:=⟨_,rfl⟩
 unfold MVer.agg
 go_enter Tryz.func56,Tryz.ntmps56
 go_upto_region 1 with (fail)
 rw [← hW]
 rw [hrb] at H1 H2 H3 HIS
 try rw [hrb]
 clear hW
 have i0:=H1.out.at_ 0 _ rfl
 have q0:=H2.out.at_ 0 _ rfl
 have q1:=H2.out.at_ 1 _ rfl
 have q2:=H2.out.at_ 2 _ rfl
 have q3:=H2.out.at_ 3 _ rfl
 have q4:=H2.out.at_ 4 _ rfl
 go_wp2_with fail
 refine (find_any A n c x ⟨name,v⟩ B _ HX.out HSL.out.len HP.out).mono ?_
 rintro e W1 ⟨rfl,hb⟩
 have HX1:=Lib.hid (HX.out.keep (KeepS.of_below (S:=LtB B) hb))
 have HB1:=Lib.hid (HB.out.trans (hb.mono HB.out.size))
 have HQ1:=Lib.hid (fun p hp r hr=>(HQ.out p hp r hr).keep (KeepS.of_below (S:=LtB B2) hb))
 have H31:=Lib.hid (H3.out.kept hb H3.out.lt)
 have HIS1:=Lib.hid (HIS.out.below hb)
 have HS1:Hid (rb+1+1+1≤W1.heap.size):=by have:=HS.out; have:=hb.size; unfold Hid; omega
 clear hb i0 q0 q1 q2 q3 q4
 have HMEM:Hid (∀ r,findRel x name v.v=some r→RelOk W1 (LtB B2) r∧FewRel r):=fun r h=>by
  obtain ⟨q,hq,hr⟩:=findRel_in h
  exact ⟨HQ1.out q hq r hr,HF.out.rel q hq r hr⟩
 have HEQ:=Lib.hid (findRel_p x name v.v)
 dsimp only
 obtain ⟨f,hfe⟩:∃ f,findRel x name v.v=f:=⟨_,rfl⟩
 rw [hfe] at HEQ HMEM ⊢
 clear hfe
 cases f with
 | none =>
  obtain ⟨W2,hW2,hb2⟩:∃ W,W=W1.alloc (.cells #[.int .u64 0,.int .u64 0,.int .u64 0,.slice none 0 0,.slice none 0 0,.bool false,.slice none 0 0,.slice none 0 0] 46)∧Below W1.heap.size W1 W:=⟨_,rfl,(Below.refl _ _).alloc (Nat.le_refl _) _⟩
  have HB2:=Lib.hid (HB1.out.trans (hb2.mono HB1.out.size))
  have H32:=Lib.hid (H31.out.kept hb2 H31.out.lt)
  unfold relV
  go_upto_region 2 with (fail)
  rw [← hW2]
  clear hW2 hb2
  have z0:=H32.out.at_ 0 _ rfl
  have z1:=H32.out.at_ 1 _ rfl
  have z2:=H32.out.at_ 2 _ rfl
  have z3:=H32.out.at_ 3 _ rfl
  have z4:=H32.out.at_ 4 _ rfl
  have z5:=H32.out.at_ 5 _ rfl
  have z6:=H32.out.at_ 6 _ rfl
  have z7:=H32.out.at_ 7 _ rfl
  have hzl:rb+1+1<W2.heap.size:=H32.out.lt
  have hzf:=H32.out.fr
  go_wp2
  have HA3:Hid (AtV ((((((((W2.setCell ⟨rb+1+1,0,none⟩ (.int .u64 0)).setCell ⟨rb+1+1,1,none⟩ (.int .u64 0)).setCell ⟨rb+1+1,2,none⟩ (.int .u64 0)).setCell ⟨rb+1+1,3,none⟩ (.slice none 0 0)).setCell ⟨rb+1+1,4,none⟩ (.slice none 0 0)).setCell ⟨rb+1+1,5,none⟩ (.bool false)).setCell ⟨rb+1+1,6,none⟩ (.slice none 0 0)).setCell ⟨rb+1+1,7,none⟩ (.slice none 0 0)) (rb+1+1) [.int .u64 0,.int .u64 0,.int .u64 0,.slice none 0 0,.slice none 0 0,.bool false,.slice none 0 0,.slice none 0 0]):=atv_fill H32.out [.int .u64 0,.int .u64 0,.int .u64 0,.slice none 0 0,.slice none 0 0,.bool false,.slice none 0 0,.slice none 0 0] 0 rfl
  have HB3:Hid (But (fun k=>k=rb+1+1) W2 ((((((((W2.setCell ⟨rb+1+1,0,none⟩ (.int .u64 0)).setCell ⟨rb+1+1,1,none⟩ (.int .u64 0)).setCell ⟨rb+1+1,2,none⟩ (.int .u64 0)).setCell ⟨rb+1+1,3,none⟩ (.slice none 0 0)).setCell ⟨rb+1+1,4,none⟩ (.slice none 0 0)).setCell ⟨rb+1+1,5,none⟩ (.bool false)).setCell ⟨rb+1+1,6,none⟩ (.slice none 0 0)).setCell ⟨rb+1+1,7,none⟩ (.slice none 0 0))):=but_fill W2 (rb+1+1) [.int .u64 0,.int .u64 0,.int .u64 0,.slice none 0 0,.slice none 0 0,.bool false,.slice none 0 0,.slice none 0 0] 0
  clear z0 z1 z2 z3 z4 z5 z6 z7 hzl hzf
  try simp only [Exit.jump]
  generalize ((((((((W2.setCell ⟨rb+1+1,0,none⟩ (.int .u64 0)).setCell ⟨rb+1+1,1,none⟩ (.int .u64 0)).setCell ⟨rb+1+1,2,none⟩ (.int .u64 0)).setCell ⟨rb+1+1,3,none⟩ (.slice none 0 0)).setCell ⟨rb+1+1,4,none⟩ (.slice none 0 0)).setCell ⟨rb+1+1,5,none⟩ (.bool false)).setCell ⟨rb+1+1,6,none⟩ (.slice none 0 0)).setCell ⟨rb+1+1,7,none⟩ (.slice none 0 0))=W3 at HA3 HB3 ⊢
  have y0:=HA3.out.at_ 0 _ rfl
  have y1:=HA3.out.at_ 1 _ rfl
  have y2:=HA3.out.at_ 2 _ rfl
  have y3:=HA3.out.at_ 3 _ rfl
  have y4:=HA3.out.at_ 4 _ rfl
  have y5:=HA3.out.at_ 5 _ rfl
  have y6:=HA3.out.at_ 6 _ rfl
  have y7:=HA3.out.at_ 7 _ rfl
  have hbw:Below w.heap.size w W3:=HB2.out.trans (HB3.out.below (B:=w.heap.size) (fun k e=>by omega) HB2.out.size)
  refine bodyPost_ret (v:=.tuple #[.agg #[.int .u64 0,.int .u64 0,.int .u64 0,.slice none 0 0,.slice none 0 0,.bool false,.slice none 0 0,.slice none 0 0],.bool false]) (by simp [results,Tryz.results56,go_sem,y0,y1,y2,y3,y4,y5,y6,y7]) rfl ⟨default,?_,?_,rel_default_any W3 _,hbw⟩
  ·rw [HEQ.out]; rfl
  ·rw [HEQ.out]; rfl
 | some r =>
  have HR:=Lib.hid (HMEM.out r rfl)
  clear HMEM
  obtain ⟨W2,hW2,hrv,hb2⟩:∃ W,W=W1.alloc (.cells #[r.ver.v.a,r.ver.v.b,r.ver.v.c,.slice r.ver.A r.ver.v.pre.length r.ver.c,.slice r.ver.B r.ver.v.build.length r.ver.d,.bool r.yanked,.slice r.N r.needs.length r.nc,.slice r.B r.bans.length r.bc] 46)∧AtV W W1.heap.size [.int .u64 r.ver.v.a,.int .u64 r.ver.v.b,.int .u64 r.ver.v.c,.slice r.ver.A r.ver.v.pre.length r.ver.c,.slice r.ver.B r.ver.v.build.length r.ver.d,.bool r.yanked,.slice r.N r.needs.length r.nc,.slice r.B r.bans.length r.bc]∧Below W1.heap.size W1 W:=⟨_,rfl,AtV.new W1 _ _,(Below.refl _ _).alloc (Nat.le_refl _) _⟩
  have HRV:=Lib.hid hrv
  have HB2:=Lib.hid (HB1.out.trans (hb2.mono HB1.out.size))
  have H32:=Lib.hid (H31.out.kept hb2 H31.out.lt)
  have HIS2:=Lib.hid (HIS1.out.below hb2)
  have HR2:=Lib.hid (HR.out.1.keep (KeepS.of_below (S:=LtB B2) hb2))
  clear hrv hb2
  obtain ⟨tb,htb⟩:∃ tb,W1.heap.size=tb:=⟨_,rfl⟩
  unfold relV MRel.agg
  go_upto_region 2 with (fail)
  rw [← hW2]
  rw [htb] at HRV
  try rw [htb]
  clear hW2 htb
  have q0:=HRV.out.at_ 0 _ rfl
  have q1:=HRV.out.at_ 1 _ rfl
  have q2:=HRV.out.at_ 2 _ rfl
  have q3:=HRV.out.at_ 3 _ rfl
  have q4:=HRV.out.at_ 4 _ rfl
  have q5:=HRV.out.at_ 5 _ rfl
  have q6:=HRV.out.at_ 6 _ rfl
  have q7:=HRV.out.at_ 7 _ rfl
  go_wp2_with fail
  refine (copiedRelease_any r B2 W2 HR2.out HR.out.2 (Nat.le_trans HB22.out HB2.out.size)).mono ?_
  rintro e W4 ⟨y,rfl,hp,hy,hb⟩
  have HB4:=Lib.hid (HB2.out.trans (hb.mono HB2.out.size))
  have H34:=Lib.hid (H32.out.kept hb H32.out.lt)
  have HY:Hid (RelOk W4 (fun b=>b≠rb+1+1∧Aside w B2 b) y):=hy.mono fun b hq _=>⟨hq _ HIS2.out.lt (HIS2.out.not (by decide) (by have:=HB22.out; omega)),hq.up HB2.out⟩
  have HPY:=Lib.hid hp
  clear hb hp hy q0 q1 q2 q3 q4 q5 q6 q7
  have z0:=H34.out.at_ 0 _ rfl
  have z1:=H34.out.at_ 1 _ rfl
  have z2:=H34.out.at_ 2 _ rfl
  have z3:=H34.out.at_ 3 _ rfl
  have z4:=H34.out.at_ 4 _ rfl
  have z5:=H34.out.at_ 5 _ rfl
  have z6:=H34.out.at_ 6 _ rfl
  have z7:=H34.out.at_ 7 _ rfl
  have hzl:rb+1+1<W4.heap.size:=H34.out.lt
  have hzf:=H34.out.fr
  unfold MRel.agg
  try dsimp only
  go_wp2
  have HA3:Hid (AtV ((((((((W4.setCell ⟨rb+1+1,0,none⟩ y.ver.v.a).setCell ⟨rb+1+1,1,none⟩ y.ver.v.b).setCell ⟨rb+1+1,2,none⟩ y.ver.v.c).setCell ⟨rb+1+1,3,none⟩ (.slice y.ver.A y.ver.v.pre.length y.ver.c)).setCell ⟨rb+1+1,4,none⟩ (.slice y.ver.B y.ver.v.build.length y.ver.d)).setCell ⟨rb+1+1,5,none⟩ (.bool y.yanked)).setCell ⟨rb+1+1,6,none⟩ (.slice y.N y.needs.length y.nc)).setCell ⟨rb+1+1,7,none⟩ (.slice y.B y.bans.length y.bc)) (rb+1+1) [.int .u64 y.ver.v.a,.int .u64 y.ver.v.b,.int .u64 y.ver.v.c,.slice y.ver.A y.ver.v.pre.length y.ver.c,.slice y.ver.B y.ver.v.build.length y.ver.d,.bool y.yanked,.slice y.N y.needs.length y.nc,.slice y.B y.bans.length y.bc]):=atv_fill H34.out [.int .u64 y.ver.v.a,.int .u64 y.ver.v.b,.int .u64 y.ver.v.c,.slice y.ver.A y.ver.v.pre.length y.ver.c,.slice y.ver.B y.ver.v.build.length y.ver.d,.bool y.yanked,.slice y.N y.needs.length y.nc,.slice y.B y.bans.length y.bc] 0 rfl
  have HB3:Hid (But (fun k=>k=rb+1+1) W4 ((((((((W4.setCell ⟨rb+1+1,0,none⟩ y.ver.v.a).setCell ⟨rb+1+1,1,none⟩ y.ver.v.b).setCell ⟨rb+1+1,2,none⟩ y.ver.v.c).setCell ⟨rb+1+1,3,none⟩ (.slice y.ver.A y.ver.v.pre.length y.ver.c)).setCell ⟨rb+1+1,4,none⟩ (.slice y.ver.B y.ver.v.build.length y.ver.d)).setCell ⟨rb+1+1,5,none⟩ (.bool y.yanked)).setCell ⟨rb+1+1,6,none⟩ (.slice y.N y.needs.length y.nc)).setCell ⟨rb+1+1,7,none⟩ (.slice y.B y.bans.length y.bc))):=but_fill W4 (rb+1+1) [.int .u64 y.ver.v.a,.int .u64 y.ver.v.b,.int .u64 y.ver.v.c,.slice y.ver.A y.ver.v.pre.length y.ver.c,.slice y.ver.B y.ver.v.build.length y.ver.d,.bool y.yanked,.slice y.N y.needs.length y.nc,.slice y.B y.bans.length y.bc] 0
  clear z0 z1 z2 z3 z4 z5 z6 z7 hzl hzf
  try simp only [Exit.jump]
  generalize ((((((((W4.setCell ⟨rb+1+1,0,none⟩ y.ver.v.a).setCell ⟨rb+1+1,1,none⟩ y.ver.v.b).setCell ⟨rb+1+1,2,none⟩ y.ver.v.c).setCell ⟨rb+1+1,3,none⟩ (.slice y.ver.A y.ver.v.pre.length y.ver.c)).setCell ⟨rb+1+1,4,none⟩ (.slice y.ver.B y.ver.v.build.length y.ver.d)).setCell ⟨rb+1+1,5,none⟩ (.bool y.yanked)).setCell ⟨rb+1+1,6,none⟩ (.slice y.N y.needs.length y.nc)).setCell ⟨rb+1+1,7,none⟩ (.slice y.B y.bans.length y.bc))=W5 at HA3 HB3 ⊢
  have y0:=HA3.out.at_ 0 _ rfl
  have y1:=HA3.out.at_ 1 _ rfl
  have y2:=HA3.out.at_ 2 _ rfl
  have y3:=HA3.out.at_ 3 _ rfl
  have y4:=HA3.out.at_ 4 _ rfl
  have y5:=HA3.out.at_ 5 _ rfl
  have y6:=HA3.out.at_ 6 _ rfl
  have y7:=HA3.out.at_ 7 _ rfl
  have hbw:Below w.heap.size w W5:=HB4.out.trans (HB3.out.below (B:=w.heap.size) (fun k e=>by omega) HB4.out.size)
  have hks:KeepS (fun b=>b≠rb+1+1∧Aside w B2 b) W4 W5:=keep_but HB3.out fun g hg e=>hg.1 e
  refine bodyPost_ret (v:=.tuple #[.agg #[y.ver.v.a,y.ver.v.b,y.ver.v.c,.slice y.ver.A y.ver.v.pre.length y.ver.c,.slice y.ver.B y.ver.v.build.length y.ver.d,.bool y.yanked,.slice y.N y.needs.length y.nc,.slice y.B y.bans.length y.bc],.bool true]) (by simp [results,Tryz.results56,go_sem,y0,y1,y2,y3,y4,y5,y6,y7]) rfl ⟨y,?_,?_,(HY.out.keep hks).mono fun b hq _=>hq.2,hbw⟩
  ·rw [HEQ.out]; rfl
  ·rw [HEQ.out]; exact HPY.out
end Go.Proofs.YtgakcdcfblgagaaGreatDoor.Copy
namespace Go.Proofs.YtgakcdcfblgagaaGreatDoor.Copy
open Go.RowKit Num Ident Semver Fr
open Range (Rng noRng RV Lies RgRow CellsAt KeepS LtB InS FitV)
open KR (KRow AtV)
open Model (MDep MVer MRel MPack DepOk VerOk RelOk PackOk DRow RRow PRow FewD FewRel FewX SlOk SortOf)
theorem insPack_none (v f:Value) (w:World):Calls Tryz.prog 153 #[v,.int .i64 0,.int .i64 0,f] w fun e w'=>e=.returned (.tuple #[])∧w'=w:=by
 go_enter Tryz.func153,Tryz.ntmps153
 go_wp2
 go_loopw [8] (fun y W=>y=.int .i64 1∧W=w) (fun _ _=>0)
 case atStart=>exact ⟨rfl,rfl⟩
 case round =>
  obtain ⟨rfl,rfl⟩:=hrel
  go_wp2
  go_end0
  exact ⟨rfl,rfl⟩
theorem stablePack_any (v f:Value) (n:Nat) (P:World→Prop) (w:World) (hn:n≤19) (h:Calls Tryz.prog 153 #[v,.int .i64 0,.int .i64 n,f] w fun e w'=>e=.returned (.tuple #[])∧P w') :
  Calls Tryz.prog 96 #[v,.int .i64 n,f] w fun e w'=>e=.returned (.tuple #[])∧P w':=by
 have HC:=Lib.hid h
 have h1:¬ (20:Int)≤(n:Int):=by omega
 have h2:¬ (20:Int)<(n:Int):=by omega
 clear h
 go_enter Tryz.func96,Tryz.ntmps96
 go_wp2
 go_loopw [7,8] (fun y z W=>y=.int .i64 0∧z=.int .i64 20∧W=w) (fun _ _ _=>0)
 case atStart=>exact ⟨rfl,rfl,rfl⟩
 case round =>
  obtain ⟨rfl,rfl,rfl⟩:=hrel
  go_wp2_with fail
  refine HC.out.mono ?_
  rintro e W1 ⟨rfl,hp⟩
  have HP:=Lib.hid hp
  clear hp
  go_wp2
  go_loopw [6] (fun x W=>x=.int .i64 20∧W=W1) (fun _ _=>0)
  case atStart=>exact ⟨rfl,rfl⟩
  case round =>
   obtain ⟨rfl,rfl⟩:=hrel
   go_wp2
   go_end0
   exact ⟨rfl,HP.out⟩
theorem sortPack_any (base:Nat) (A:Option Addr) (c:Nat) (l:List MPack) (w:World) (ho:w.ownsRow base 48 2 (.slice A l.length c) l.length (l.flatMap MPack.vals)) (hn:l.length≤19) :
  Calls Tryz.prog 44 #[.slice A l.length c,.func (.func 45) #[] #[]] w (SortedPost MPack.vals 2 48 nameLe w base (.slice A l.length c) l):=by
 have HI:Hid (Calls Tryz.prog 153 #[.slice A l.length c,.int .i64 0,.int .i64 l.length,.func (.func 45) #[] #[]] w (SortedPost MPack.vals 2 48 nameLe w base (.slice A l.length c) l)):=by
  rcases ho.2 with ⟨e,h0⟩ | ⟨g,cap,cur,e,_⟩
  ·have hl:l=[]:=List.eq_nil_of_length_eq_zero h0
   subst hl
   exact (insPack_none _ _ w).mono fun e w' ⟨he,hw⟩=>⟨he,[],⟨List.Perm.refl _,List.Pairwise.nil,fun _=>rfl⟩,by rw [hw]; exact ho,by rw [hw]; exact But.refl _ _⟩
  ·injection e with e1 _ e2
   subst e1
   subst e2
   exact insPack_own base g _ l w ho (by omega)
 have HS:=Lib.hid (stablePack_any _ _ l.length _ w hn HI.out)
 clear HI ho
 go_enter Tryz.func44,Tryz.ntmps44
 go_wp2_with fail
 refine HS.out.mono ?_
 rintro e W1 ⟨rfl,hp⟩
 have HP:=Lib.hid hp
 clear hp
 go_wp2
 go_end0
 exact ⟨rfl,HP.out⟩
theorem insRelease_none (v f:Value) (w:World):Calls Tryz.prog 159 #[v,.int .i64 0,.int .i64 0,f] w fun e w'=>e=.returned (.tuple #[])∧w'=w:=by
 go_enter Tryz.func159,Tryz.ntmps159
 go_wp2
 go_loopw [8] (fun y W=>y=.int .i64 1∧W=w) (fun _ _=>0)
 case atStart=>exact ⟨rfl,rfl⟩
 case round =>
  obtain ⟨rfl,rfl⟩:=hrel
  go_wp2
  go_end0
  exact ⟨rfl,rfl⟩
theorem stableRelease_any (v f:Value) (n:Nat) (P:World→Prop) (w:World) (hn:n≤19) (h:Calls Tryz.prog 159 #[v,.int .i64 0,.int .i64 n,f] w fun e w'=>e=.returned (.tuple #[])∧P w') :
  Calls Tryz.prog 102 #[v,.int .i64 n,f] w fun e w'=>e=.returned (.tuple #[])∧P w':=by
 have HC:=Lib.hid h
 have h1:¬ (20:Int)≤(n:Int):=by omega
 have h2:¬ (20:Int)<(n:Int):=by omega
 clear h
 go_enter Tryz.func102,Tryz.ntmps102
 go_wp2
 go_loopw [7,8] (fun y z W=>y=.int .i64 0∧z=.int .i64 20∧W=w) (fun _ _ _=>0)
 case atStart=>exact ⟨rfl,rfl,rfl⟩
 case round =>
  obtain ⟨rfl,rfl,rfl⟩:=hrel
  go_wp2_with fail
  refine HC.out.mono ?_
  rintro e W1 ⟨rfl,hp⟩
  have HP:=Lib.hid hp
  clear hp
  go_wp2
  go_loopw [6] (fun x W=>x=.int .i64 20∧W=W1) (fun _ _=>0)
  case atStart=>exact ⟨rfl,rfl⟩
  case round =>
   obtain ⟨rfl,rfl⟩:=hrel
   go_wp2
   go_end0
   exact ⟨rfl,HP.out⟩
theorem sortRelease_any (base:Nat) (A:Option Addr) (c:Nat) (l:List MRel) (w:World) (ho:w.ownsRow base 46 8 (.slice A l.length c) l.length (l.flatMap MRel.vals)) (hn:l.length≤19) (hv:∀ r ∈ l,∀ g,A=some ⟨g,0,none⟩→VerOk w (fun b=>b≠g) r.ver) :
  Calls Tryz.prog 48 #[.slice A l.length c,.func (.func 49) #[] #[]] w (SortedPost MRel.vals 8 46 verLe w base (.slice A l.length c) l):=by
 have HI:Hid (Calls Tryz.prog 159 #[.slice A l.length c,.int .i64 0,.int .i64 l.length,.func (.func 49) #[] #[]] w (SortedPost MRel.vals 8 46 verLe w base (.slice A l.length c) l)):=by
  rcases ho.2 with ⟨e,h0⟩ | ⟨g,cap,cur,e,_⟩
  ·have hl:l=[]:=List.eq_nil_of_length_eq_zero h0
   subst hl
   exact (insRelease_none _ _ w).mono fun e w' ⟨he,hw⟩=>⟨he,[],⟨List.Perm.refl _,List.Pairwise.nil,fun _=>rfl⟩,by rw [hw]; exact ho,by rw [hw]; exact But.refl _ _⟩
  ·injection e with e1 _ e2
   subst e1
   subst e2
   exact insRelease_own base g _ l w ho (by omega) (fun r hr=>hv r hr g rfl)
 have HS:=Lib.hid (stableRelease_any _ _ l.length _ w hn HI.out)
 clear HI ho
 go_enter Tryz.func48,Tryz.ntmps48
 go_wp2_with fail
 refine HS.out.mono ?_
 rintro e W1 ⟨rfl,hp⟩
 have HP:=Lib.hid hp
 clear hp
 go_wp2
 go_end0
 exact ⟨rfl,HP.out⟩
end Go.Proofs.YtgakcdcfblgagaaGreatDoor.Copy
