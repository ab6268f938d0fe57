/-
  What the theorem of the last text needs of these: MoPinOk, MoRels2, MoCopyN, MoIsPlain. Conditions: as each theorem states.
-/
import Derived.Test.YtnpjklaaokiikaaGreatDoorPlA1
import Derived.Test.YtnpjklaaokiikaaGreatDoorPlA18
import Derived.Test.YtnpjklaaokiikaaGreatDoorPlA21
import Derived.Test.YtnpjklaaokiikaaGreatDoorPlA24
import Derived.Test.YtnpjklaaokiikaaGreatDoorPlA26
import Derived.Test.YtnpjklaaokiikaaGreatDoorPlA27
import Derived.Shelf.Abstract
import Derived.StillTailTactics
set_option maxRecDepth 100000
set_option maxHeartbeats 25600000
namespace Go.Proofs.YtnpjklaaokiikaaGreatDoor.Model
open Go.RowKit Num Ident Semver Fr
open Range (Rng noRng RV KeepS LtB LenOk goodR wt)
open KR (KRow AtV)
open Name (isName)
open Nrm (hasR)
theorem findRel_in {x:List MPack} {n:List UInt8} {v:Ver} {r:MRel} (h:findRel x n v=some r):∃ p ∈ x,r ∈ p.rels:=by
 unfold findRel at h
 obtain ⟨p,hp,hr⟩:=Option.bind_eq_some_iff.1 h
 exact ⟨p,List.mem_of_find?_eq_some hp,List.mem_of_find?_eq_some hr⟩
theorem pinOk_of (x:List MPack) (s:List MPin) (p:MPin):pinOk (x.map MPack.p) (s.map MPin.p) p.p=(match findRel x p.name p.ver.v with | none=>false | some r=>!r.yanked && ((r.needs.all fun d=>metB (s.map MPin.p) d.p) && !(r.bans.any fun d=>metB (s.map MPin.p) d.p))):=by
 unfold pinOk
 show (match releaseO (x.map MPack.p) p.name p.ver.v with | none=>false | some r=>_)=_
 rw [findRel_p]
 cases findRel x p.name p.ver.v with
 | none=>rfl
 | some r =>
  show (!r.yanked && ((r.needs.map MDep.p).all _ && !((r.bans.map MDep.p).any _)))=_
  rw [List.all_map,List.any_map]; rfl
structure SolW (W:World) (B:Nat) (A:Option Addr) (n c:Nat) (x:List MPack) (s:List MPin) (ib cb fb mb:Nat):Prop where
 ix:AtV W ib [.slice A n c]
 ch:AtV W cb [.map (some mb)]
 fn:AtV W fb [.func (.func 24) #[] #[.pointer (some ⟨cb,0,none⟩)]]
 map:ChosenAt W mb s
 row:PRow W (LtB B) A n x
 vers:∀ p ∈ s,PinOk W (LtB B) p
 le:B≤W.heap.size
theorem SolW.kept {W W':World} {B:Nat} {A:Option Addr} {n c:Nat} {x:List MPack} {s:List MPin} {ib cb fb mb:Nat} (h:SolW W B A n c x s ib cb fb mb) (hb:Below W.heap.size W W'):SolW W' B A n c x s ib cb fb mb :=
 ⟨h.ix.kept hb h.ix.lt,h.ch.kept hb h.ch.lt,h.fn.kept hb h.fn.lt,h.map.kept hb h.map.lt,h.row.keep (KeepS.of_below hb),fun p hp=>(h.vers p hp).keep (KeepS.of_below hb),Nat.le_trans h.le hb.size⟩
theorem SolW.met {W:World} {B:Nat} {A:Option Addr} {n c:Nat} {x:List MPack} {s:List MPin} {ib cb fb mb:Nat} (h:SolW W B A n c x s ib cb fb mb) (hn:(s.map MPin.name).Nodup) {d:MDep} (hd:DepOk W (LtB B) d) (hf:FewP d) {V:World} (hV:Below W.heap.size W V) :
  Calls Tryz.prog 24 (#[d.agg] ++ #[.pointer (some ⟨cb,0,none⟩)]) V fun e w'=>e=.returned (.bool (metB (s.map MPin.p) d.p))∧Below V.heap.size V w' :=
 met_any d s cb mb B V (hd.keep (KeepS.of_below hV)) hf (fun p hp=>(h.vers p hp).ver.keep (KeepS.of_below hV)) hn (h.ch.kept hV h.ch.lt) (h.map.kept hV h.map.lt) (Nat.le_trans h.le hV.size)
theorem pinOk_any (p:MPin) (B:Nat) (A:Option Addr) (n c:Nat) (x:List MPack) (s:List MPin) (ib cb fb mb:Nat) (w:World) (h:SolW w B A n c x s ib cb fb mb) (hf:FewX x) (hnd:(s.map MPin.name).Nodup) (hp:PinOk w (LtB B) p) (hn:n≤maxLen) :
  Calls Tryz.prog 28 #[p.agg,.pointer (some ⟨ib,0,none⟩),.pointer (some ⟨fb,0,none⟩)] w fun e w'=>e=.returned (.bool (pinOk (x.map MPack.p) (s.map MPin.p) p.p))∧Below w.heap.size w w':=by
 have HEQ:=Lib.hid (pinOk_of x s p)
 have HF:=Lib.hid hf
 have HND:=Lib.hid hnd
 obtain ⟨W0,hW,hav,hb0⟩:∃ W,W=w.alloc (.cells #[.string (Ident.mk p.name),p.ver.v.a,p.ver.v.b,p.ver.v.c,.slice p.ver.A p.ver.v.pre.length p.ver.c,.slice p.ver.B p.ver.v.build.length p.ver.d] 62)∧AtV W w.heap.size [.string (Ident.mk p.name),.int .u64 p.ver.v.a,.int .u64 p.ver.v.b,.int .u64 p.ver.v.c,.slice p.ver.A p.ver.v.pre.length p.ver.c,.slice p.ver.B p.ver.v.build.length p.ver.d]∧Below w.heap.size w W:=⟨_,rfl,AtV.new w _ _,(Below.refl _ _).alloc (Nat.le_refl _) _⟩
 have HAV:=Lib.hid hav
 have HB0:=Lib.hid hb0
 have H0:=Lib.hid (h.kept hb0)
 have HP0:=Lib.hid (hp.keep (KeepS.of_below (S:=LtB B) hb0))
 clear hav hb0 h hp hf hnd
 obtain ⟨bd,hbd⟩:∃ bd,w.heap.size=bd:=⟨_,rfl⟩
 unfold MPin.agg
 go_enter Tryz.func28,Tryz.ntmps28
 go_upto_region 1 with (fail)
 rw [← hW]
 rw [hbd] at HAV
 clear hW hbd
 have c0:=HAV.out.at_ 0 _ rfl
 have c1:=HAV.out.at_ 1 _ rfl
 have c2:=HAV.out.at_ 2 _ rfl
 have c3:=HAV.out.at_ 3 _ rfl
 have c4:=HAV.out.at_ 4 _ rfl
 have c5:=HAV.out.at_ 5 _ rfl
 have i0:=H0.out.ix.at_ 0 _ rfl
 go_wp2_with fail
 refine (find_any A n c x p B _ H0.out.row hn HP0.out).mono ?_
 rintro e W1 ⟨rfl,hb⟩
 have H1:=Lib.hid (H0.out.kept hb)
 have HB1:=Lib.hid (HB0.out.trans (hb.mono HB0.out.size))
 clear hb c0 c1 c2 c3 c4 c5 i0
 have HMEM:Hid (∀ r,findRel x p.name p.ver.v=some r→RelOk W1 (LtB B) r∧FewRel r):=fun r h=>by
  obtain ⟨q,hq,hr⟩:=findRel_in h
  exact ⟨((H1.out.row.ok q hq).rels.ok r hr),HF.out.rel q hq r hr⟩
 obtain ⟨f,hfe⟩:∃ f,findRel x p.name p.ver.v=f:=⟨_,rfl⟩
 rw [hfe] at HEQ HMEM ⊢
 clear hfe
 cases f with
 | none =>
  have HEQ:=Lib.hid (show pinOk (x.map MPack.p) (s.map MPin.p) p.p=false from HEQ.out)
  have HBE:Hid (Below w.heap.size w (W1.alloc (.cells #[.int .u64 0,.int .u64 0,.int .u64 0,.slice none 0 0,.slice none 0 0,.bool false,.slice none 0 0,.slice none 0 0] 36))):=HB1.out.alloc HB1.out.size _
  unfold relV
  go_wp2
  go_ret
  exact ⟨by rw [HEQ.out]; rfl,HBE.out⟩
 | some r =>
  have HEQ:=Lib.hid (show pinOk (x.map MPack.p) (s.map MPin.p) p.p=(!r.yanked && ((r.needs.all fun d=>metB (s.map MPin.p) d.p) && !(r.bans.any fun d=>metB (s.map MPin.p) d.p))) from HEQ.out)
  have HR:=Lib.hid (HMEM.out r rfl)
  clear HMEM
  obtain ⟨W2,hW2,hrv,hb2⟩:∃ W,W=W1.alloc (.cells #[r.ver.v.a,r.ver.v.b,r.ver.v.c,.slice r.ver.A r.ver.v.pre.length r.ver.c,.slice r.ver.B r.ver.v.build.length r.ver.d,.bool r.yanked,.slice r.N r.needs.length r.nc,.slice r.B r.bans.length r.bc] 36)∧AtV W W1.heap.size [.int .u64 r.ver.v.a,.int .u64 r.ver.v.b,.int .u64 r.ver.v.c,.slice r.ver.A r.ver.v.pre.length r.ver.c,.slice r.ver.B r.ver.v.build.length r.ver.d,.bool r.yanked,.slice r.N r.needs.length r.nc,.slice r.B r.bans.length r.bc]∧Below W1.heap.size W1 W:=⟨_,rfl,AtV.new W1 _ _,(Below.refl _ _).alloc (Nat.le_refl _) _⟩
  have HRV:=Lib.hid hrv
  have HB2:=Lib.hid (HB1.out.trans (hb2.mono HB1.out.size))
  have H2:=Lib.hid (H1.out.kept hb2)
  have HR2:=Lib.hid (HR.out.1.keep (KeepS.of_below (S:=LtB B) hb2))
  clear hrv hb2
  obtain ⟨rb,hrb⟩:∃ rb,W1.heap.size=rb:=⟨_,rfl⟩
  unfold relV MRel.agg
  go_upto_region 2 with (fail)
  rw [← hW2]
  rw [hrb] at HRV
  clear hW2 hrb
  obtain ⟨y,hy⟩:∃ y,r.yanked=y:=⟨_,rfl⟩
  rw [hy] at HEQ
  have r5:W2.cell? ⟨rb,5,none⟩=some (.bool y):=by rw [← hy]; exact HRV.out.at_ 5 _ rfl
  clear hy
  cases y with
  | true =>
   have HEQ:=Lib.hid (show pinOk (x.map MPack.p) (s.map MPin.p) p.p=false from HEQ.out)
   go_wp2
   go_ret
   exact ⟨by rw [HEQ.out]; rfl,HB2.out⟩
  | false =>
   have r6:=HRV.out.at_ 6 _ rfl
   have f0:=H2.out.fn.at_ 0 _ rfl
   have hev:=everyDep_any r.N r.needs.length r.nc r.needs 24 #[.pointer (some ⟨cb,0,none⟩)] (enters_of Tryz.func24 (by kernel_rfl) rfl) (fun d=>metB (s.map MPin.p) d.p) (LtB B) W2 HR2.out.needs.row (by have:=HR.out.2.2.2.1.1; omega)
    (fun V d hd hV=>H2.out.met HND.out (HR2.out.needs.ok d hd) (HR.out.2.2.2.1.2 d hd) hV)
   go_wp2_with fail
   refine hev.mono ?_
   rintro e W3 ⟨rfl,hb3⟩
   have HB3:=Lib.hid (HB2.out.trans (hb3.mono HB2.out.size))
   have H3:=Lib.hid (H2.out.kept hb3)
   have HR3:=Lib.hid (HR2.out.keep (KeepS.of_below (S:=LtB B) hb3))
   have HRV3:=Lib.hid (HRV.out.kept hb3 HRV.out.lt)
   clear hb3 r5 r6 f0 hev
   obtain ⟨a,ha⟩:∃ a,(r.needs.all fun d=>metB (s.map MPin.p) d.p)=a:=⟨_,rfl⟩
   rw [ha] at HEQ ⊢
   clear ha
   cases a with
   | false =>
    have HEQ:=Lib.hid (show pinOk (x.map MPack.p) (s.map MPin.p) p.p=false from HEQ.out)
    go_wp2
    go_ret
    exact ⟨by rw [HEQ.out]; rfl,HB3.out⟩
   | true =>
    have r7:=HRV3.out.at_ 7 _ rfl
    have f0:=H3.out.fn.at_ 0 _ rfl
    have hco:=containsDep_any r.B r.bans.length r.bc r.bans 24 #[.pointer (some ⟨cb,0,none⟩)] (enters_of Tryz.func24 (by kernel_rfl) rfl) (fun d=>metB (s.map MPin.p) d.p) (LtB B) W3 HR3.out.bans.row (by have:=HR.out.2.2.2.2.1; omega)
     (fun V d hd hV=>H3.out.met HND.out (HR3.out.bans.ok d hd) (HR.out.2.2.2.2.2 d hd) hV)
    go_wp2_with fail
    refine hco.mono ?_
    rintro e W4 ⟨rfl,hb4⟩
    have HB4:=Lib.hid (HB3.out.trans (hb4.mono HB3.out.size))
    clear hb4 r7 f0 hco
    obtain ⟨b,hb⟩:∃ b,(r.bans.any fun d=>metB (s.map MPin.p) d.p)=b:=⟨_,rfl⟩
    rw [hb] at HEQ ⊢
    clear hb
    cases b with
    | false =>
     have HEQ:=Lib.hid (show pinOk (x.map MPack.p) (s.map MPin.p) p.p=true from HEQ.out)
     go_wp2
     go_ret
     exact ⟨by rw [HEQ.out]; rfl,HB4.out⟩
    | true =>
     have HEQ:=Lib.hid (show pinOk (x.map MPack.p) (s.map MPin.p) p.p=false from HEQ.out)
     go_wp2
     go_ret
     exact ⟨by rw [HEQ.out]; rfl,HB4.out⟩
end Go.Proofs.YtnpjklaaokiikaaGreatDoor.Model
namespace Go.Proofs.YtnpjklaaokiikaaGreatDoor.Model
open Go.RowKit Num Ident Semver Fr
open Range (Rng noRng RV KeepS LtB LenOk goodR wt)
open KR (KRow AtV)
open Name (isName)
open Nrm (hasR inV)
def out3:Option (Nat × Int × Int)→Int × Int × Int
 | none=>(-1,-1,0)
 | some q=>((q.1:Int),q.2.1,q.2.2)
def relsV (q:Int × Int × Int):Value:=.tuple #[.int .i64 q.1,.int .i64 q.2.1,.int .i64 q.2.2]
def texts (l:List MRel) (k:Nat):List (List UInt8):=(l.take k).map fun r=>vtext r.ver.v
theorem texts_snoc {l:List MRel} {k:Nat} (h:k<l.length):texts l (k+1)=texts l k ++ [vtext (l.getD k default).ver.v]:=take_map_snoc (fun r:MRel=>vtext r.ver.v) l h
theorem relK_zero {x:List (List UInt8)} {pn:List UInt8} {r:PRel} (h:(relK x pn r).2=0):goodV r.v=true∧vtext r.v ∉ x∧depsF pn r=none∧relK x pn r=(-1,0):=by
 unfold relK at h ⊢
 by_cases h1:goodV r.v=false
 ·rw [if_pos h1] at h; cases h
 ·rw [if_neg h1] at h ⊢
  by_cases h2:vtext r.v ∈ x
  ·rw [if_pos h2] at h; cases h
  ·rw [if_neg h2] at h ⊢
   have hn:depsF pn r=none:=by
    cases hd:depsF pn r with
    | none=>rfl
    | some q =>
     rw [hd] at h
     exact absurd h (firstE_some (g:=fun j d=>banE pn r.v r.needs.length j d) hd).1
   exact ⟨by rwa [Bool.not_eq_false] at h1,h2,hn,by rw [hn]; rfl⟩
theorem relK_some {x:List (List UInt8)} {pn:List UInt8} {l:List PRel} {k:Nat} {r:PRel} (hv:goodV r.v=true→(vtext r.v ∈ x↔verB l k=true)):relF pn l k r=if (relK x pn r).2=0 then none else some (relK x pn r):=by
 unfold relF
 by_cases h1:goodV r.v=false
 ·rw [if_pos h1,relK_ver h1]; rfl
 ·have hg:goodV r.v=true:=by rwa [Bool.not_eq_false] at h1
  rw [if_neg h1]
  by_cases h2:verB l k=true
  ·rw [if_pos h2,relK_there hg ((hv hg).2 h2)]; rfl
  ·rw [if_neg h2,relK_deps hg (fun g=>h2 ((hv hg).1 g))]
   show (depsF pn r).map _=_
   cases hd:depsF pn r with
   | none=>rfl
   | some q =>
    have:=(firstE_some (g:=fun j d=>banE pn r.v r.needs.length j d) hd).1
    show some ((q.1:Int),q.2)=if q.2=0 then none else some ((q.1:Int),q.2)
    rw [if_neg this]
theorem verB_texts {l:List MRel} {k:Nat} (hk:k<l.length) (hg:∀ j,j<k→goodV (l.getD j default).ver.v=true) (hv:goodV (l.getD k default).ver.v=true):vtext (l.getD k default).ver.v ∈ texts l k↔verB (l.map MRel.p) k=true:=by
 unfold texts verB
 rw [List.any_eq_true,map_at MRel.p l hk]
 simp only [List.mem_map]
 constructor
 ·rintro ⟨r,hr,e⟩
  obtain ⟨j,hj,rfl⟩:=List.mem_take_iff_getElem.1 hr
  have hj2:j<k:=by omega
  have e0:l.getD j default=l[j]:=by rw [List.getD_eq_getElem?_getD,List.getElem?_eq_getElem (by omega)]; rfl
  refine ⟨(l[j]).p,List.mem_take_iff_getElem.2 ⟨j,by rw [List.length_map]; omega,by simp⟩,?_⟩
  have:l[j].ver.v=(l.getD k default).ver.v:=vtext_inj (by have:=hg j hj2; rwa [e0] at this) hv e
  show sameV l[j].ver.v (l.getD k default).ver.v=true
  rw [this]; exact sameV_self _
 ·rintro ⟨r,hr,e⟩
  obtain ⟨j,hj,rfl⟩:=List.mem_take_iff_getElem.1 hr
  rw [List.length_map] at hj
  refine ⟨l[j],List.mem_take_iff_getElem.2 ⟨j,by omega,rfl⟩,?_⟩
  have e2:sameV l[j].ver.v (l.getD k default).ver.v=true:=by
   have e:sameV ((l.map MRel.p)[j]).v (l.getD k default).p.v=true:=e
   rw [List.getElem_map] at e
   exact e
  rw [Range.sameV_eq e2]
theorem rels_made (w:World) (p:MPack):∃ W,W=(((w.alloc (.cells #[.string (Ident.mk p.name),.slice p.R p.rels.length p.rc] 60)).alloc (.cells #[.int .i64 (-1)] 3)).alloc (.map #[] 0)).alloc (.cells #[.map (some (w.heap.size+1+1))] 94)∧AtV W w.heap.size [.string (Ident.mk p.name),.slice p.R p.rels.length p.rc]∧AtV W (w.heap.size+1) [.int .i64 (-1)]∧SeenAt W (w.heap.size+1+1) []∧AtV W (w.heap.size+1+1+1) [.map (some (w.heap.size+1+1))]∧Below w.heap.size w W:=by
 obtain ⟨V1,hV1⟩:∃ V,V=w.alloc (.cells #[.string (Ident.mk p.name),.slice p.R p.rels.length p.rc] 60):=⟨_,rfl⟩
 have a1:AtV V1 w.heap.size [.string (Ident.mk p.name),.slice p.R p.rels.length p.rc]:=by rw [hV1]; exact AtV.new w _ _
 have z1:V1.heap.size=w.heap.size+1:=by rw [hV1]; simp
 have b1:Below w.heap.size w V1:=by rw [hV1]; exact (Below.refl _ _).alloc (Nat.le_refl _) _
 obtain ⟨V2,hV2⟩:∃ V,V=V1.alloc (.cells #[.int .i64 (-1)] 3):=⟨_,rfl⟩
 have k2:Below V1.heap.size V1 V2:=by rw [hV2]; exact (Below.refl _ _).alloc (Nat.le_refl _) _
 have a2:AtV V2 (w.heap.size+1) [.int .i64 (-1)]:=by rw [hV2,← z1]; exact AtV.new V1 _ _
 have z2:V2.heap.size=w.heap.size+1+1:=by rw [hV2]; simp [z1]
 obtain ⟨V3,hV3⟩:∃ V,V=V2.alloc (.map #[] 0):=⟨_,rfl⟩
 have k3:Below V2.heap.size V2 V3:=by rw [hV3]; exact (Below.refl _ _).alloc (Nat.le_refl _) _
 have a3:SeenAt V3 (w.heap.size+1+1) []:=by rw [hV3,← z2]; exact SeenAt.made V2
 have z3:V3.heap.size=w.heap.size+1+1+1:=by rw [hV3]; simp [z2]
 obtain ⟨V4,hV4⟩:∃ V,V=V3.alloc (.cells #[.map (some (w.heap.size+1+1))] 94):=⟨_,rfl⟩
 have k4:Below V3.heap.size V3 V4:=by rw [hV4]; exact (Below.refl _ _).alloc (Nat.le_refl _) _
 have a4:AtV V4 (w.heap.size+1+1+1) [.map (some (w.heap.size+1+1))]:=by rw [hV4,← z3]; exact AtV.new V3 _ _
 refine ⟨V4,by rw [hV4,hV3,hV2,hV1],((a1.kept k2 (by omega)).kept k3 (by omega)).kept k4 (by omega),(a2.kept k3 (by omega)).kept k4 (by omega),a3.kept k4 (by omega),a4,b1.trans ((k2.trans ((k3.trans (k4.mono (by omega))).mono (by omega))).mono (by omega))⟩
theorem rels_first (p:MPack) (B pb:Nat) (w W:World) (hp:PackOk w (LtB B) p) (hf:∀ r ∈ p.rels,FewRel r) (hn:p.rels.length≤6) (ht:Tab w) (hB:B≤pb) (hpb:pb=w.heap.size) (hb:Below w.heap.size w W) (h1:AtV W pb [.string (Ident.mk p.name),.slice p.R p.rels.length p.rc]) (h2:AtV W (pb+1) [.int .i64 (-1)]) (h3:SeenAt W (pb+1+1) []) (h4:AtV W (pb+1+1+1) [.map (some (pb+1+1))]) :
  Calls Tryz.prog 94 #[.slice p.R p.rels.length p.rc,.func (.func 95) #[] #[.pointer (some ⟨pb+1+1+1,0,none⟩),.pointer (some ⟨pb,0,none⟩),.pointer (some ⟨pb+1,0,none⟩)]] W fun e w'=>∃ a d f:Int,e=.returned (.tuple #[.int .i64 a,.int .i64 f])∧AtV w' (pb+1) [.int .i64 d]∧Below w.heap.size w w'∧out3 (firstG (relF p.name p.p.rels) 0 p.p.rels)=(a,d,f):=by
 have hrow:∀ W',But (fun b=>b=pb+1+1∨b=pb+1) W W'→RRow W' (LtB B) p.R p.rels.length p.rels:=fun W' hw=>(hp.rels.keep (KeepS.of_below hb)).keep (keepS_but hw fun g hg e=>by have hg:g<B:=hg; omega)
 refine (firstRelease_any 95 #[.pointer (some ⟨pb+1+1+1,0,none⟩),.pointer (some ⟨pb,0,none⟩),.pointer (some ⟨pb+1,0,none⟩)] (enters_of Tryz.func95 (by kernel_rfl) rfl) p.R p.rels.length p.rc p.rels
  (fun k=>(relK (texts p.rels k) p.name (p.rels.getD k default).p).2)
  (fun k W'=>SeenAt W' (pb+1+1) (texts p.rels k)∧AtV W' (pb+1) [.int .i64 (-1)]∧But (fun b=>b=pb+1+1∨b=pb+1) W W')
  (fun k W'=>AtV W' (pb+1) [.int .i64 (relK (texts p.rels k) p.name (p.rels.getD k default).p).1]∧But (fun b=>b=pb+1+1∨b=pb+1) W W') (LtB B) W (by unfold maxLen; omega)
  (fun k W' _ hI=>hrow W' hI.2.2) (fun k W' hk hI=>?_) ⟨h3,h2,But.refl _ _⟩).mono ?_
 ·refine (rel1_any (p.rels.getD k default) p (pb+1+1+1) pb (pb+1) (pb+1+1) (texts p.rels k) B W' ((hrow W' hI.2.2).ok _ (hp.rels.row.mem hk)) (hf _ (hp.rels.row.mem hk)) (h4.but hI.2.2 (by omega)) (h1.but hI.2.2 (by omega)) hI.2.1 hI.1 (by unfold texts; simp; omega) ⟨by omega,by omega,by omega,by omega,by omega⟩ ⟨by omega,by omega⟩ (by have:=hb.size; have:=hI.2.2.size; omega) (ht.kept (hb.trans (hI.2.2.below (B:=w.heap.size) (fun k e=>by omega) hb.size)))).mono ?_
  rintro e w' ⟨ho,hd,hs,hbt⟩
  refine ⟨ho,fun h0=>⟨?_,?_,hI.2.2.then_ hbt⟩,fun _=>⟨hd,hI.2.2.then_ hbt⟩⟩
  ·rw [texts_snoc hk]; exact hs h0
  ·have:=(relK_zero h0).2.2.2
   rw [this] at hd; exact hd
 ·intro e w' hp2
  have rel:∀ k,k<p.rels.length→(∀ j,j<k→(relK (texts p.rels j) p.name (p.rels.getD j default).p).2=0)→relF p.name p.p.rels k (p.p.rels.getD k default)=if (relK (texts p.rels k) p.name (p.rels.getD k default).p).2=0 then none else some (relK (texts p.rels k) p.name (p.rels.getD k default).p):=fun k hk ha=>by
   have e0:p.p.rels.getD k default=(p.rels.getD k default).p:=map_at MRel.p p.rels hk
   rw [e0]
   exact relK_some fun hv=>verB_texts hk (fun j hj=>(relK_zero (ha j hj)).1) hv
  have len:p.p.rels.length=p.rels.length:=List.length_map _
  rcases hp2 with ⟨k,hk,ha,hne,he,hd,hbt⟩ | ⟨ha,he,_,hd,hbt⟩
  ·refine ⟨_,_,_,he,hd,hb.trans (hbt.below (B:=w.heap.size) (fun k e=>by omega) hb.size),?_⟩
   have e1:=firstG_stop (relF p.name p.p.rels) p.p.rels 0 k _ (by omega) (fun j hj=>by
    rw [Nat.zero_add,rel j (by omega) (fun i hi=>ha i (by omega)),if_pos (ha j hj)]) (by
    rw [Nat.zero_add,rel k hk ha,if_neg hne])
   rw [e1,Nat.zero_add]; rfl
  ·refine ⟨_,_,_,he,hd,hb.trans (hbt.below (B:=w.heap.size) (fun k e=>by omega) hb.size),?_⟩
   have e1:=firstG_none (relF p.name p.p.rels) p.p.rels 0 (fun j hj=>by
    rw [Nat.zero_add,rel j (by omega) (fun i hi=>ha i (by omega)),if_pos (ha j (by omega))])
   rw [e1]; rfl
theorem releasesFault_any (p:MPack) (B:Nat) (w:World) (hp:PackOk w (LtB B) p) (hf:∀ r ∈ p.rels,FewRel r) (hn:p.rels.length≤6) (ht:Tab w) (hB:B≤w.heap.size) :
  Calls Tryz.prog 53 #[p.agg] w fun e w'=>e=.returned (relsV (out3 (firstG (relF p.name p.p.rels) 0 p.p.rels)))∧Below w.heap.size w w':=by
 obtain ⟨W,hW,h1,h2,h3,h4,hb⟩:=rels_made w p
 obtain ⟨pb,hpb⟩:∃ pb,w.heap.size=pb:=⟨_,rfl⟩
 rw [hpb] at hW h1 h2 h3 h4
 have hfst:=rels_first p B pb w W hp hf hn ht (by omega) hpb.symm hb h1 h2 h3 h4
 have H1:=Lib.hid h1
 have HPB:=Lib.hid hpb
 clear h1 h2 h3 h4 hb hp hf ht
 have hmm:=@run_makeMap Tryz.prog
 unfold MPack.agg
 go_enter Tryz.func53,Tryz.ntmps53
 go_upto_region 3 with (fail)
 rw [← hW]
 clear hW hpb hmm hB hn
 have c1:=H1.out.at_ 1 _ rfl
 go_wp2_with fail
 refine hfst.mono ?_
 rintro e W2 ⟨a,d,f,rfl,hd,hb,hq⟩
 clear hfst c1
 have HQ:=Lib.hid hq
 have HB2:=Lib.hid hb
 have HD2:=Lib.hid hd
 clear hq hb hd
 go_wp2
 have HDW:Hid (AtV W2.drew (pb+1) [.int .i64 d]):=HD2.out.kept (Below.refl _ _).drew HD2.out.lt
 have HBW:Hid (Below w.heap.size w W2.drew):=HB2.out.drew
 refine wp_region_held_drew (S:=fun w'=>Below w.heap.size w w'∧AtV w' (pb+1) [.int .i64 d]) (by kernel_rfl) ⟨HBW.out,HDW.out⟩ (fun hHeld=>?_)
 generalize W2.drew=wd at HDW HBW hHeld ⊢
 refine tk 0 rfl (.int .i64 a) ?_
 refine tk 1 rfl (.int .i64 d) ?_ (hv:=fun w' hS'=>by (have z0:=hS'.2.at_ 0 _ rfl); go_simp)
 refine tk 2 rfl (.int .i64 f) ?_
 refine tk 3 rfl (.int .i64 a) ?_
 have d0:=HDW.out.at_ 0 _ rfl
 have hdl:pb+1<wd.heap.size:=HDW.out.lt
 have hdf:=HDW.out.fr
 refine cl 4 rfl fun K hK=>?_
 go_simp
 have HD5:Hid (AtV (wd.setCell ⟨pb+1,0,none⟩ (.int .i64 d)) (pb+1) [.int .i64 d]):=HDW.out.set 0 (.int .i64 d) (by simp)
 have HB5:Hid (Below w.heap.size w (wd.setCell ⟨pb+1,0,none⟩ (.int .i64 d))):=HBW.out.setCell (p:=⟨pb+1,0,none⟩) (by have:=HPB.out; show w.heap.size≤pb+1; omega) _
 refine hK.out _ _ ⟨HB5.out,HD5.out⟩ (fun hHeld2=>?_)
 clear hK K d0 hdl hdf
 generalize wd.setCell ⟨pb+1,0,none⟩ (.int .i64 d)=W5 at HD5 HB5 ⊢
 try simp only [Act.put,p1,p2,p3]
 refine tk 5 rfl (.int .i64 f) ?_ (hS:=⟨HB5.out,HD5.out⟩)
 refine wpAnyH_done (by kernel_rfl) ?_ _
 have d0:=HD5.out.at_ 0 _ rfl
 go_wp2
 refine bodyPost_ret (v:=.tuple #[.int .i64 a,.int .i64 d,.int .i64 f]) (by simp [results,Tryz.results53,go_sem,d0]) rfl ⟨by rw [HQ.out]; rfl,HB5.out⟩
end Go.Proofs.YtnpjklaaokiikaaGreatDoor.Model
namespace Go.Proofs.YtnpjklaaokiikaaGreatDoor.Copy
open Go.RowKit Num Ident Semver Fr
open Range (Rng noRng RV Lies RgRow CellsAt KeepS LtB InS FitV)
open KR (KRow AtV)
open Model (MDep MVer MRel MPack DepOk VerOk RelOk PackOk DRow RRow PRow FewD FewRel FewX SlOk)
theorem fineDep:Fine DepOk:=⟨fun h k=>h.keep k,fun h k=>h.mono k⟩
theorem copiedDep_list (g:Nat) (cb:Array Value) (eg:∀ args w,(callFunc g args).run Tryz.prog w=.ok (.enter g args) w) (A:Option Addr) (n c:Nat) (l:List MDep) (S:Nat→Prop) (B:Nat) (w:World) (hr:KRow MDep.vals 8 w S A n l) (hn:n≤1000) (hB:B≤w.heap.size)
  (hcall:∀ (W:World) (x:MDep),x ∈ l→Below w.heap.size w W→Calls Tryz.prog g (#[x.agg] ++ cb) W (OnePost MDep.agg MDep.p DepOk W B x)) :
  Calls Tryz.prog 84 #[.slice A n c,.func (.func g) #[] cb] w (CopyPost MDep.vals 8 57 MDep.p DepOk w B l):=by
 have HC:=Lib.hid hcall
 have HR:=Lib.hid hr
 have HLB:=Lib.hid hB
 have HL:Hid (l.length=n):=hr.1
 clear hr hcall hB
 go_enter Tryz.func84,Tryz.ntmps84
 go_wp2_with fail
 refine (cloneDep_any A n c l S w HR.out (by omega) (by unfold maxLen; omega)).mono ?_
 rintro e W0 ⟨v0,rfl,ho,hb⟩
 have hl:=HL.out
 have H0:Hid (Copied MDep.vals 8 57 MDep.p DepOk w B l 0 v0 l W0):=⟨rfl,by rw [hl]; exact ho,fun j hj=>absurd hj (Nat.not_lt_zero j),fun _ _=>rfl,hb⟩
 obtain ⟨A0,c0,rfl,_⟩:=own_slice ho
 clear ho hb HR hl
 go_wp2
 go_loopw [11] (fun y W=>∃ (k:Nat) (cs:List MDep),k≤n∧y=.int .i64 k∧Hid (Copied MDep.vals 8 57 MDep.p DepOk w B l k (.slice A0 n c0) cs W)) (fun y _=>n - (intOf y).toNat)
 case atStart=>exact ⟨0,l,Nat.zero_le _,rfl,H0.out⟩
 case round =>
  rename World=>wk
  obtain ⟨k,cs,hk,rfl,HI⟩:=hrel
  by_cases hlt:k<n
  ·have hkl:k<l.length:=by rw [HL.out]; exact hlt
   obtain ⟨cb0,cc,hv,_,hg0,hgl,hgf,hcl⟩:=HI.out.cells Model.dep_len hkl
   rw [HI.out.rest k (Nat.le_refl _)] at hcl
   have hmem:l.getD k default ∈ l:=by rw [List.getD_eq_getElem?_getD,List.getElem?_eq_getElem hkl]; exact List.getElem_mem _
   rw [HL.out] at hv
   injection hv with e1 _ e2
   subst e1
   subst e2
   have hcl2:=HC.out wk _ hmem HI.out.bel
   have HPK:Hid (∀ W' y,Below wk.heap.size wk W'→MDep.p y=MDep.p (l.getD k default)→DepOk W' (Aside wk B) y→Copied MDep.vals 8 57 MDep.p DepOk w B l (k+1) (.slice (some ⟨cb0,0,none⟩) n c0) (cs.set k y) (setAll W' cb0 (k * 8) (MDep.vals y))):=fun W' y hb hp hy=>by
    have h1:=HI.out
    rw [← HL.out] at h1 ⊢
    exact h1.next (by decide) Model.dep_len fineDep HLB.out hkl hb hp hy
   have HI2:Hid (∀ W',Below wk.heap.size wk W'→cb0<W'.heap.size∧(∀ o,W'.frozen? ⟨cb0,o,none⟩=false)∧∀ i u,(MDep.vals (l.getD k default))[i]?=some u→W'.cell? ⟨cb0,k * 8+i,none⟩=some u):=fun W' hb =>
    ⟨Nat.lt_of_lt_of_le hgl hb.size,fun o=>(hb.frozen (p:=⟨cb0,o,none⟩) hgl).trans (hgf o),fun i u hu=>(hb.cell (p:=⟨cb0,k * 8+i,none⟩) hgl).trans (hcl i u hu)⟩
   generalize l.getD k default=x at hcl hcl2 HPK HI2 hmem
   unfold MDep.agg at hcl2
   have q0:wk.cell? ⟨cb0,k * 8,none⟩=_:=hcl 0 _ rfl
   have q1:=hcl 1 _ rfl
   have q2:=hcl 2 _ rfl
   have q3:=hcl 3 _ rfl
   have q4:=hcl 4 _ rfl
   have q5:=hcl 5 _ rfl
   have q6:=hcl 6 _ rfl
   have q7:=hcl 7 _ rfl
   clear hcl
   go_wp2_with fail
   refine hcl2.mono ?_
   rintro e W5 ⟨y,rfl,hp,hy,hb⟩
   obtain ⟨hgl5,hgf5,hcl5⟩:=HI2.out W5 hb
   have HN:Hid (Copied MDep.vals 8 57 MDep.p DepOk w B l (k+1) (.slice (some ⟨cb0,0,none⟩) n c0) (cs.set k y) ((((((((W5.setCell ⟨cb0,k * 8,none⟩ (.string (Ident.mk y.name))).setCell ⟨cb0,k * 8+1,none⟩ y.x.kind).setCell ⟨cb0,k * 8+2,none⟩ y.x.v.a).setCell ⟨cb0,k * 8+3,none⟩ y.x.v.b).setCell ⟨cb0,k * 8+4,none⟩ y.x.v.c).setCell ⟨cb0,k * 8+5,none⟩ (.slice y.x.A y.x.v.pre.length y.x.c)).setCell ⟨cb0,k * 8+6,none⟩ (.slice y.x.B y.x.v.build.length y.x.d)).setCell ⟨cb0,k * 8+7,none⟩ (.slice y.x.L y.x.n y.x.e))):=by
    have h:=HPK.out W5 y hb hp hy
    simp only [setAll,MDep.vals,RV.vals,Nat.add_assoc,Nat.reduceAdd] at h
    exact h
   clear q0 q1 q2 q3 q4 q5 q6 q7 hgl hgf hp hy hb HPK HI2 hmem
   have q0:W5.cell? ⟨cb0,k * 8,none⟩=_:=hcl5 0 _ rfl
   have q1:=hcl5 1 _ rfl
   have q2:=hcl5 2 _ rfl
   have q3:=hcl5 3 _ rfl
   have q4:=hcl5 4 _ rfl
   have q5:=hcl5 5 _ rfl
   have q6:=hcl5 6 _ rfl
   have q7:=hcl5 7 _ rfl
   clear hcl5
   dsimp only
   go_wp2
   exact ⟨⟨k+1,_,by omega,by go_num,HN⟩,by simp [intOf]; omega⟩
  ·obtain rfl:k=n:=by omega
   go_wp2
   go_ret
   exact ⟨_,cs,rfl,by have h1:=HI.out; have hl:=HL.out; rw [hl]; exact h1⟩
theorem fineRelease:Fine RelOk:=⟨fun h k=>h.keep k,fun h k=>h.mono k⟩
theorem copiedRelease_list (g:Nat) (cb:Array Value) (eg:∀ args w,(callFunc g args).run Tryz.prog w=.ok (.enter g args) w) (A:Option Addr) (n c:Nat) (l:List MRel) (S:Nat→Prop) (B:Nat) (w:World) (hr:KRow MRel.vals 8 w S A n l) (hn:n≤1000) (hB:B≤w.heap.size)
  (hcall:∀ (W:World) (x:MRel),x ∈ l→Below w.heap.size w W→Calls Tryz.prog g (#[x.agg] ++ cb) W (OnePost MRel.agg MRel.p RelOk W B x)) :
  Calls Tryz.prog 38 #[.slice A n c,.func (.func g) #[] cb] w (CopyPost MRel.vals 8 36 MRel.p RelOk w B l):=by
 have HC:=Lib.hid hcall
 have HR:=Lib.hid hr
 have HLB:=Lib.hid hB
 have HL:Hid (l.length=n):=hr.1
 clear hr hcall hB
 go_enter Tryz.func38,Tryz.ntmps38
 go_wp2_with fail
 refine (cloneRelease_any A n c l S w HR.out (by omega) (by unfold maxLen; omega)).mono ?_
 rintro e W0 ⟨v0,rfl,ho,hb⟩
 have hl:=HL.out
 have H0:Hid (Copied MRel.vals 8 36 MRel.p RelOk w B l 0 v0 l W0):=⟨rfl,by rw [hl]; exact ho,fun j hj=>absurd hj (Nat.not_lt_zero j),fun _ _=>rfl,hb⟩
 obtain ⟨A0,c0,rfl,_⟩:=own_slice ho
 clear ho hb HR hl
 go_wp2
 go_loopw [11] (fun y W=>∃ (k:Nat) (cs:List MRel),k≤n∧y=.int .i64 k∧Hid (Copied MRel.vals 8 36 MRel.p RelOk w B l k (.slice A0 n c0) cs W)) (fun y _=>n - (intOf y).toNat)
 case atStart=>exact ⟨0,l,Nat.zero_le _,rfl,H0.out⟩
 case round =>
  rename World=>wk
  obtain ⟨k,cs,hk,rfl,HI⟩:=hrel
  by_cases hlt:k<n
  ·have hkl:k<l.length:=by rw [HL.out]; exact hlt
   obtain ⟨cb0,cc,hv,_,hg0,hgl,hgf,hcl⟩:=HI.out.cells Model.rel_len hkl
   rw [HI.out.rest k (Nat.le_refl _)] at hcl
   have hmem:l.getD k default ∈ l:=by rw [List.getD_eq_getElem?_getD,List.getElem?_eq_getElem hkl]; exact List.getElem_mem _
   rw [HL.out] at hv
   injection hv with e1 _ e2
   subst e1
   subst e2
   have hcl2:=HC.out wk _ hmem HI.out.bel
   have HPK:Hid (∀ W' y,Below wk.heap.size wk W'→MRel.p y=MRel.p (l.getD k default)→RelOk W' (Aside wk B) y→Copied MRel.vals 8 36 MRel.p RelOk w B l (k+1) (.slice (some ⟨cb0,0,none⟩) n c0) (cs.set k y) (setAll W' cb0 (k * 8) (MRel.vals y))):=fun W' y hb hp hy=>by
    have h1:=HI.out
    rw [← HL.out] at h1 ⊢
    exact h1.next (by decide) Model.rel_len fineRelease HLB.out hkl hb hp hy
   have HI2:Hid (∀ W',Below wk.heap.size wk W'→cb0<W'.heap.size∧(∀ o,W'.frozen? ⟨cb0,o,none⟩=false)∧∀ i u,(MRel.vals (l.getD k default))[i]?=some u→W'.cell? ⟨cb0,k * 8+i,none⟩=some u):=fun W' hb =>
    ⟨Nat.lt_of_lt_of_le hgl hb.size,fun o=>(hb.frozen (p:=⟨cb0,o,none⟩) hgl).trans (hgf o),fun i u hu=>(hb.cell (p:=⟨cb0,k * 8+i,none⟩) hgl).trans (hcl i u hu)⟩
   generalize l.getD k default=x at hcl hcl2 HPK HI2 hmem
   unfold MRel.agg at hcl2
   have q0:wk.cell? ⟨cb0,k * 8,none⟩=_:=hcl 0 _ rfl
   have q1:=hcl 1 _ rfl
   have q2:=hcl 2 _ rfl
   have q3:=hcl 3 _ rfl
   have q4:=hcl 4 _ rfl
   have q5:=hcl 5 _ rfl
   have q6:=hcl 6 _ rfl
   have q7:=hcl 7 _ rfl
   clear hcl
   go_wp2_with fail
   refine hcl2.mono ?_
   rintro e W5 ⟨y,rfl,hp,hy,hb⟩
   obtain ⟨hgl5,hgf5,hcl5⟩:=HI2.out W5 hb
   have HN:Hid (Copied MRel.vals 8 36 MRel.p RelOk w B l (k+1) (.slice (some ⟨cb0,0,none⟩) n c0) (cs.set k y) ((((((((W5.setCell ⟨cb0,k * 8,none⟩ y.ver.v.a).setCell ⟨cb0,k * 8+1,none⟩ y.ver.v.b).setCell ⟨cb0,k * 8+2,none⟩ y.ver.v.c).setCell ⟨cb0,k * 8+3,none⟩ (.slice y.ver.A y.ver.v.pre.length y.ver.c)).setCell ⟨cb0,k * 8+4,none⟩ (.slice y.ver.B y.ver.v.build.length y.ver.d)).setCell ⟨cb0,k * 8+5,none⟩ (.bool y.yanked)).setCell ⟨cb0,k * 8+6,none⟩ (.slice y.N y.needs.length y.nc)).setCell ⟨cb0,k * 8+7,none⟩ (.slice y.B y.bans.length y.bc))):=by
    have h:=HPK.out W5 y hb hp hy
    simp only [setAll,MRel.vals,MVer.vals,List.cons_append,List.nil_append,Nat.add_assoc,Nat.reduceAdd] at h
    exact h
   clear q0 q1 q2 q3 q4 q5 q6 q7 hgl hgf hp hy hb HPK HI2 hmem
   have q0:W5.cell? ⟨cb0,k * 8,none⟩=_:=hcl5 0 _ rfl
   have q1:=hcl5 1 _ rfl
   have q2:=hcl5 2 _ rfl
   have q3:=hcl5 3 _ rfl
   have q4:=hcl5 4 _ rfl
   have q5:=hcl5 5 _ rfl
   have q6:=hcl5 6 _ rfl
   have q7:=hcl5 7 _ rfl
   clear hcl5
   dsimp only
   go_wp2
   exact ⟨⟨k+1,_,by omega,by go_num,HN⟩,by simp [intOf]; omega⟩
  ·obtain rfl:k=n:=by omega
   go_wp2
   go_ret
   exact ⟨_,cs,rfl,by have h1:=HI.out; have hl:=HL.out; rw [hl]; exact h1⟩
end Go.Proofs.YtnpjklaaokiikaaGreatDoor.Copy
namespace Go.Proofs.YtnpjklaaokiikaaGreatDoor.Model
open Go.RowKit Num Ident Semver Fr
open Range (Rng noRng RV KeepS LtB)
open KR (KRow AtV)
open Prec (fullV fullV_ordr)
theorem cb_lt:∀ a b:List UInt8,Lib.compareBytes a b<0↔a<b
 | [],[]=>by simp [Lib.compareBytes]
 | [],b :: lb=>by simp [Lib.compareBytes]
 | a :: la,[]=>by simp [Lib.compareBytes]
 | a :: la,b :: lb=>by
  unfold Lib.compareBytes
  rw [List.cons_lt_cons_iff]
  by_cases h1:a<b
  ·simp [h1]
  ·by_cases h2:b<a
   ·have h3:a≠b:=fun e=>by rw [e] at h2; exact absurd h2 (UInt8.lt_irrefl b)
    simp [h1,h2,h3]
   ·have h3:a=b:=UInt8.le_antisymm (UInt8.not_lt.1 h2) (UInt8.not_lt.1 h1)
    simp [h3,cb_lt la lb]
theorem cb_le (a b:List UInt8):decide (0≤Lib.compareBytes b a)=decide (¬ b<a):=by
 exact decide_eq_decide.2 ⟨fun h q=>by have:=(cb_lt b a).2 q; omega,fun h=>by
  have:¬ Lib.compareBytes b a<0:=fun q=>h ((cb_lt b a).1 q)
  omega⟩
theorem full_le (a b:Ver):decide (0≤fullV b a)=decide (fullV a b≤0):=by
 have:=fullV_ordr.flip a b
 exact decide_eq_decide.2 (by omega)
theorem chain_map {α β:Type} (f:β→β→Bool) (g:α→β):∀ l:List α,chainB f (l.map g)=chainB (fun a b=>f (g a) (g b)) l
 | []=>rfl
 | [a]=>rfl
 | a :: b :: l=>by
  have h:=chain_map f g (b :: l)
  show (f (g a) (g b) && chainB f ((b :: l).map g))=(f (g a) (g b) && chainB (fun a b=>f (g a) (g b)) (b :: l))
  rw [h]
theorem plainB_of (x:List MPack):plainB (x.map MPack.p)=(chainB (fun a b:MPack=>decide (0≤Lib.compareBytes b.name a.name)) x && !(x.any fun p=>!chainB (fun a b:MRel=>decide (0≤fullV b.ver.v a.ver.v)) p.rels)):=by
 unfold plainB packsB relsB
 rw [chain_map,List.all_map,List.all_eq_not_any_not]
 have e1:(fun a b:MPack=>decide (¬ (MPack.p b).name<(MPack.p a).name))=fun a b:MPack=>decide (0≤Lib.compareBytes b.name a.name):=by
  funext a b; rw [cb_le]; rfl
 have e2:(fun p:MPack=>!((fun p:PPack=>chainB (fun a b:PRel=>decide (fullV a.v b.v≤0)) p.rels) ∘ MPack.p) p)=fun p:MPack=>!chainB (fun a b:MRel=>decide (0≤fullV b.ver.v a.ver.v)) p.rels:=by
  funext p
  show (!chainB (fun a b:PRel=>decide (fullV a.v b.v≤0)) (p.rels.map MRel.p))=_
  rw [chain_map]
  congr 2
  funext a b
  rw [full_le]; rfl
 rw [e1,e2]
theorem isPlain1_any (p:MPack) (S:Nat→Prop) (w:World) (h:PackOk w S p) (hn:p.rels.length≤6) :
  Calls Tryz.prog 47 (#[p.agg] ++ #[]) w fun e w'=>e=.returned (.bool (!chainB (fun a b:MRel=>decide (0≤fullV b.ver.v a.ver.v)) p.rels))∧Below w.heap.size w w':=by
 rw [Array.append_empty]
 obtain ⟨W0,hW,hav,hb0⟩:∃ W,W=w.alloc (.cells #[.string (Ident.mk p.name),.slice p.R p.rels.length p.rc] 60)∧AtV W w.heap.size [.string (Ident.mk p.name),.slice p.R p.rels.length p.rc]∧Below w.heap.size w W:=⟨_,rfl,AtV.new w _ _,(Below.refl _ _).alloc (Nat.le_refl _) _⟩
 have HAV:=Lib.hid hav
 have HB0:=Lib.hid hb0
 have H0:=Lib.hid (h.rels.keep (KeepS.of_below (S:=S) hb0))
 clear hav hb0 h
 obtain ⟨bd,hbd⟩:∃ bd,w.heap.size=bd:=⟨_,rfl⟩
 unfold MPack.agg
 go_enter Tryz.func47,Tryz.ntmps47
 go_upto_region 1 with (fail)
 rw [← hW]
 rw [hbd] at HAV
 clear hW hbd
 have c1:=HAV.out.at_ 1 _ rfl
 go_wp2_with fail
 refine (sortedRelease_any p.R p.rels.length p.rc p.rels 41 #[] (enters_of Tryz.func41 (by kernel_rfl) rfl) (fun a b=>fullV a.ver.v b.ver.v) S W0 H0.out.row (by omega) (fun W a b ha hb hB=>by
  rw [Array.append_empty]
  exact (byVersion_any a b S W ((H0.out.ok a ha).ver.keep (KeepS.of_below hB)) ((H0.out.ok b hb).ver.keep (KeepS.of_below hB))).mono fun e w' ⟨he,hd⟩=>⟨he,hd.toBelow⟩)).mono ?_
 rintro e W1 ⟨rfl,hb⟩
 have HB1:=Lib.hid (HB0.out.trans (hb.mono HB0.out.size))
 clear hb c1
 obtain ⟨q,hq⟩:∃ q,chainB (fun a b:MRel=>decide (0≤fullV b.ver.v a.ver.v)) p.rels=q:=⟨_,rfl⟩
 have HQ:=Lib.hid hq
 rw [hq]
 clear hq
 go_wp2
 go_ret
 exact ⟨by rw [HQ.out]; rfl,HB1.out⟩
theorem isPlain_any (A:Option Addr) (n c:Nat) (x:List MPack) (B:Nat) (w:World) (h:PRow w (LtB B) A n x) (hf:FewX x) :
  Calls Tryz.prog 15 #[.agg #[.slice A n c]] w fun e w'=>e=.returned (.bool (plainB (x.map MPack.p)))∧Below w.heap.size w w':=by
 have HEQ:=Lib.hid (plainB_of x)
 have HN:Hid (n≤6):=by have:=hf.len; have:=h.row.1; unfold Hid; omega
 have HF:=Lib.hid hf
 obtain ⟨W0,hW,hav,hb0⟩:∃ W,W=w.alloc (.cells #[.slice A n c] 24)∧AtV W w.heap.size [.slice A n c]∧Below w.heap.size w W:=⟨_,rfl,AtV.new w _ _,(Below.refl _ _).alloc (Nat.le_refl _) _⟩
 have HAV:=Lib.hid hav
 have HB0:=Lib.hid hb0
 have H0:=Lib.hid (h.keep (KeepS.of_below (S:=LtB B) hb0))
 clear hav hb0 h hf
 obtain ⟨bd,hbd⟩:∃ bd,w.heap.size=bd:=⟨_,rfl⟩
 go_enter Tryz.func15,Tryz.ntmps15
 go_upto_region 1 with (fail)
 rw [← hW]
 rw [hbd] at HAV
 clear hW hbd
 have c0:=HAV.out.at_ 0 _ rfl
 go_wp2_with fail
 refine (sortedPack_any A n c x 37 #[] (enters_of Tryz.func37 (by kernel_rfl) rfl) (fun a b=>Lib.compareBytes a.name b.name) (LtB B) W0 H0.out.row (by have:=HN.out; omega) (fun W a b ha hb hB=>by
  rw [Array.append_empty]
  exact (namesPack_any a b W).mono fun e w' ⟨he,hd⟩=>⟨he,hd.toBelow⟩)).mono ?_
 rintro e W1 ⟨rfl,hb⟩
 have HB1:=Lib.hid (HB0.out.trans (hb.mono HB0.out.size))
 have HAV1:=Lib.hid (HAV.out.kept hb HAV.out.lt)
 have H1:=Lib.hid (H0.out.keep (KeepS.of_below (S:=LtB B) hb))
 clear hb c0
 dsimp only
 have c0:=HAV1.out.at_ 0 _ rfl
 obtain ⟨q,hq⟩:∃ q,chainB (fun a b:MPack=>decide (0≤Lib.compareBytes b.name a.name)) x=q:=⟨_,rfl⟩
 rw [hq] at HEQ ⊢
 clear hq
 cases q with
 | false =>
  have HEQ:=Lib.hid (HEQ.out.trans (Bool.false_and _))
  go_wp2
  go_ret
  exact ⟨by rw [HEQ.out]; rfl,HB1.out⟩
 | true =>
  have HEQ:=Lib.hid (HEQ.out.trans (Bool.true_and _))
  go_wp2_with fail
  refine (containsPack_any A n c x 47 #[] (enters_of Tryz.func47 (by kernel_rfl) rfl) (fun p=>!chainB (fun a b:MRel=>decide (0≤fullV b.ver.v a.ver.v)) p.rels) (LtB B) W1 H1.out.row (by have:=HN.out; omega) (fun W p hp hB =>
   isPlain1_any p (LtB B) W ((H1.out.ok p hp).keep (KeepS.of_below hB)) (HF.out.pack p hp).2)).mono ?_
  rintro e W2 ⟨rfl,hb⟩
  have HB2:=Lib.hid (HB1.out.trans (hb.mono HB1.out.size))
  clear hb c0
  obtain ⟨q,hq⟩:∃ q,(x.any fun p=>!chainB (fun a b:MRel=>decide (0≤fullV b.ver.v a.ver.v)) p.rels)=q:=⟨_,rfl⟩
  rw [hq] at HEQ ⊢
  clear hq
  go_wp2
  go_ret
  exact ⟨by rw [HEQ.out]; rfl,HB2.out⟩
end Go.Proofs.YtnpjklaaokiikaaGreatDoor.Model
