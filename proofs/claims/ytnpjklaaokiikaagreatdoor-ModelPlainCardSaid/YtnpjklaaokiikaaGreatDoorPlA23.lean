/-
  What the theorem of the last text needs of these: MoRefRel, MoRefOne, MoRoots. Conditions: as each theorem states.
-/
import Derived.Test.YtnpjklaaokiikaaGreatDoorPlA1
import Derived.Test.YtnpjklaaokiikaaGreatDoorPlA3
import Derived.Test.YtnpjklaaokiikaaGreatDoorPlA22
set_option maxRecDepth 100000
set_option maxHeartbeats 25600000
namespace Go.Proofs.YtnpjklaaokiikaaGreatDoor.Model
open Go.RowKit Num Ident Semver
open Range (Rng noRng RV KeepS LtB LenOk goodR wt)
open KR (KRow AtV)

def findRel (x:List MPack) (name:List UInt8) (v:Ver):Option MRel:=(x.find? fun p=>p.name == name).bind fun p=>p.rels.find? fun r=>sameV r.ver.v v
theorem findRel_p (x:List MPack) (name:List UInt8) (v:Ver):releaseO (x.map MPack.p) name v=(findRel x name v).map MRel.p:=by
 unfold releaseO findRel
 rw [List.find?_map]
 show (Option.map MPack.p (x.find? fun p=>p.name == name)).bind _=_
 cases x.find? fun p=>p.name == name with
 | none=>rfl
 | some p =>
  show (p.rels.map MRel.p).find? _=Option.map MRel.p (p.rels.find? _)
  rw [List.find?_map]; rfl
def relV:Option MRel→Value
 | none=>.tuple #[.agg #[.int .u64 0,.int .u64 0,.int .u64 0,.slice none 0 0,.slice none 0 0,.bool false,.slice none 0 0,.slice none 0 0],.bool false]
 | some r=>.tuple #[r.agg,.bool true]
theorem find_first {α:Type} [Inhabited α] (f:α→Bool):∀ (l:List α) (k:Nat),k<l.length→(∀ j,j<k→f (l.getD j default)=false)→f (l.getD k default)=true→l.find? f=some (l.getD k default)
 | [],_,h,_,_=>by simp at h
 | a :: l,0,_,_,h=>by
  have h:f a=true:=h
  rw [List.find?_cons,h]; rfl
 | a :: l,k+1,h,ha,hb=>by
  have h0:f a=false:=ha 0 (Nat.succ_pos _)
  rw [List.find?_cons,h0]
  exact find_first f l k (by simpa using h) (fun j hj=>ha (j+1) (Nat.succ_lt_succ hj)) hb
theorem find_none {α:Type} [Inhabited α] (f:α→Bool) {l:List α} (h:∀ j,j<l.length→f (l.getD j default)=false):l.find? f=none:=by
 rw [List.find?_eq_none]
 intro x hx
 obtain ⟨j,hj,rfl⟩:=List.getElem_of_mem hx
 have:=h j hj
 rw [List.getD_eq_getElem?_getD,List.getElem?_eq_getElem hj] at this
 rw [Bool.not_eq_true]; exact this
structure RelAt (w:World) (ib vb rb:Nat) (A:Option Addr) (n c:Nat) (v:MVer) (W:World):Prop where
 ix:AtV W ib [.slice A n c]
 ver:AtV W vb [.int .u64 v.v.a,.int .u64 v.v.b,.int .u64 v.v.c,.slice v.A v.v.pre.length v.c,.slice v.B v.v.build.length v.d]
 res:AtV W rb [.int .u64 0,.int .u64 0,.int .u64 0,.slice none 0 0,.slice none 0 0,.bool false,.slice none 0 0,.slice none 0 0]
 hi:w.heap.size≤rb
 bel:Below w.heap.size w W
theorem RelAt.kept {w:World} {ib vb rb:Nat} {A:Option Addr} {n c:Nat} {v:MVer} {W W':World} (h:RelAt w ib vb rb A n c v W) (hb:Below W.heap.size W W'):RelAt w ib vb rb A n c v W' :=
 ⟨h.ix.kept hb h.ix.lt,h.ver.kept hb h.ver.lt,h.res.kept hb h.res.lt,h.hi,h.bel.trans (hb.mono h.bel.size)⟩
theorem rel_start (w:World) (A:Option Addr) (n c:Nat) (v:MVer):∃ W,W=(((w.alloc (.cells #[.slice A n c] 24)).alloc (v.v,v.A,v.c,v.B,v.d)).alloc (.cells #[.int .u64 0,.int .u64 0,.int .u64 0,.slice none 0 0,.slice none 0 0,.bool false,.slice none 0 0,.slice none 0 0] 36))∧RelAt w w.heap.size (w.heap.size+1) (w.heap.size+1+1) A n c v W:=by
 have b1:Below w.heap.size w (w.alloc (.cells #[.slice A n c] 24)):=(Below.refl _ _).alloc (Nat.le_refl _) _
 refine ⟨_,rfl,?_,?_,?_,by omega,(b1.alloc b1.size _).alloc (by simp; omega) _⟩
 ·exact ((AtV.new w 24 [.slice A n c]).kept ((Below.refl _ _).alloc (Nat.le_refl _) _) (by simp)).kept ((Below.refl _ _).alloc (Nat.le_refl _) _) (by simp; omega)
 ·have:=(AtV.new (w.alloc (.cells #[.slice A n c] 24)) 34 [.int .u64 v.v.a,.int .u64 v.v.b,.int .u64 v.v.c,.slice v.A v.v.pre.length v.c,.slice v.B v.v.build.length v.d]).kept ((Below.refl _ _).alloc (Nat.le_refl _) (.cells #[.int .u64 0,.int .u64 0,.int .u64 0,.slice none 0 0,.slice none 0 0,.bool false,.slice none 0 0,.slice none 0 0] 36)) (by simp)
  rw [size_alloc] at this; exact this
 ·have:=AtV.new ((w.alloc (.cells #[.slice A n c] 24)).alloc (v.v,v.A,v.c,v.B,v.d)) 36 [.int .u64 0,.int .u64 0,.int .u64 0,.slice none 0 0,.slice none 0 0,.bool false,.slice none 0 0,.slice none 0 0]
  rw [size_alloc,size_alloc] at this; exact this
theorem refRelease_any (A:Option Addr) (n c:Nat) (x:List MPack) (name:List UInt8) (v:MVer) (B:Nat) (w:World) (h:PRow w (LtB B) A n x) (_hB:B≤w.heap.size) (hn:n≤maxLen) (s1:SRow w v.A v.v.pre.length v.v.pre) (s2:SRow w v.B v.v.build.length v.v.build) (f1:v.v.pre.length≤maxLen) (f2:v.v.build.length≤maxLen) :
  Calls Tryz.prog 12 #[.agg #[.slice A n c],.string (Ident.mk name),v.agg] w fun e w'=>e=.returned (relV (findRel x name v.v))∧Below w.heap.size w w':=by
 have HO:=Lib.hid h
 have HL:=Lib.hid h.row.1
 have HS1:=Lib.hid s1
 have HS2:=Lib.hid s2
 have HF1:=Lib.hid f1
 have HF2:=Lib.hid f2
 unfold maxLen at hn
 clear h s1 s2 f1 f2
 unfold MVer.agg
 go_enter Tryz.func12,Tryz.ntmps12
 go_upto_region 1 with (fail)
 obtain ⟨W0,hW,hc0⟩:=rel_start w A n c v
 rw [← hW]
 clear hW
 have HC0:=Lib.hid hc0
 clear hc0
 obtain ⟨ib,hib⟩:∃ ib,w.heap.size=ib:=⟨_,rfl⟩
 obtain ⟨vb,hvb⟩:∃ vb,w.heap.size+1=vb:=⟨_,rfl⟩
 obtain ⟨rb,hrb⟩:∃ rb,w.heap.size+1+1=rb:=⟨_,rfl⟩
 rw [hrb,hvb,hib] at HC0
 rw [hrb,hvb,hib]
 clear hrb hvb hib
 go_wp2
 go_loopw [8] (fun y W=>∃ i:Nat,i≤n∧y=.int .i64 i∧Hid (∀ j,j<i→(x.getD j default).name≠name)∧Hid (RelAt w ib vb rb A n c v W)) (fun y _=>n - (intOf y).toNat)
 case atStart=>exact ⟨0,Nat.zero_le _,rfl,(fun j hj=>by omega),HC0.out⟩
 case round =>
  rename World=>wi
  obtain ⟨i,hi,rfl,HD,HC⟩:=hrel
  have i0:=HC.out.ix.at_ 0 _ rfl
  by_cases hlt:i<n
  ·have hrow:=HO.out.keep (KeepS.of_below (S:=LtB B) HC.out.bel)
   have HPK:Hid (PackOk wi (LtB B) (x.getD i default)):=hrow.ok _ (getD_mem (by rw [HL.out]; exact hlt))
   obtain ⟨b,o,rfl,_,hb,c0,c1⟩:=hrow.cells hlt
   have HXF:Hid ((x.getD i default).name=name→x.find? (fun p=>p.name == name)=some (x.getD i default)):=fun e=>find_first _ x i (by rw [HL.out]; exact hlt) (fun j hj=>beq_eq_false_iff_ne.2 (HD.out j hj)) (by rw [beq_iff_eq]; exact e)
   have HMO:Hid ((x.getD i default).name≠name→∀ j,j<i+1→(x.getD j default).name≠name):=fun h j hj=>by
    rcases Nat.lt_or_ge j i with h1 | h1
    ·exact HD.out j h1
    ·obtain rfl:j=i:=by omega
     exact h
   obtain ⟨p,hp⟩:∃ p,x.getD i default=p:=⟨_,rfl⟩
   rw [hp] at c0 c1 HPK HXF HMO
   clear hp hrow
   have hin:¬ n≤i:=by omega
   by_cases hnq:p.name=name
   ·have hbe0:((Ident.mk p.name).toList == (Ident.mk name).toList)=true:=by rw [hnq]; simp
    have hbe:((Ident.mk p.name).toList != (Ident.mk name).toList)=false:=by rw [hnq]; simp
    have HF:=Lib.hid (HXF.out hnq)
    clear hnq
    go_wp2
    have HRCL:Hid (p.rels.length≤maxLen):=Nat.le_trans HPK.out.rc.1 HPK.out.rc.2
    have hrlen:p.rels.length≤9223372036854775807:=HRCL.out
    have HPX:Hid (wi.cell? ⟨b,o+i * 2+1,none⟩=some (.slice p.R p.rels.length p.rc)∧b<wi.heap.size):=⟨c1,hb⟩
    clear c0 c1 i0 hbe hbe0 hb
    go_loopw [9] (fun y W=>∃ k:Nat,k≤p.rels.length∧y=.int .i64 k∧Hid (∀ j,j<k→sameV (p.rels.getD j default).ver.v v.v=false)∧Hid (Below wi.heap.size wi W)) (fun y _=>p.rels.length - (intOf y).toNat)
    case atStart=>exact ⟨0,Nat.zero_le _,rfl,(fun j hj=>by omega),Below.refl _ _⟩
    case round =>
     rename World=>wr
     obtain ⟨k,hk,rfl,HDR,HWR⟩:=hrel
     have HCR:=Lib.hid (HC.out.kept HWR.out)
     have i0:=HCR.out.ix.at_ 0 _ rfl
     have hib:ib<wr.heap.size:=HCR.out.ix.lt
     have hvb:vb<wr.heap.size:=HCR.out.ver.lt
     have hb:b<wr.heap.size:=Nat.lt_of_lt_of_le HPX.out.2 HWR.out.size
     have c1:wr.cell? ⟨b,o+i * 2+1,none⟩=some (.slice p.R p.rels.length p.rc):=(HWR.out.cell (p:=⟨b,o+i * 2+1,none⟩) HPX.out.2).trans HPX.out.1
     by_cases hkl:k<p.rels.length
     ·have hrr:=HPK.out.rels.keep (KeepS.of_below (S:=LtB B) HWR.out)
      have HRO:Hid (RelOk wr (LtB B) (p.rels.getD k default)):=hrr.ok _ (getD_mem hkl)
      obtain ⟨g,og,eg,_,hg,d0,d1,d2,d3,d4,d5,d6,d7⟩:=hrr.cells hkl
      rw [eg] at c1
      clear eg
      have HYES:Hid (sameV (p.rels.getD k default).ver.v v.v=true→findRel x name v.v=some (p.rels.getD k default)):=fun h=>by
       unfold findRel; rw [HF.out]
       exact find_first _ p.rels k hkl HDR.out h
      have HNO:Hid (sameV (p.rels.getD k default).ver.v v.v=false→∀ j,j<k+1→sameV (p.rels.getD j default).ver.v v.v=false):=fun h j hj=>by
       rcases Nat.lt_or_ge j k with h1 | h1
       ·exact HDR.out j h1
       ·obtain rfl:j=k:=by omega
        exact h
      obtain ⟨r,hr⟩:∃ r,p.rels.getD k default=r:=⟨_,rfl⟩
      rw [hr] at d0 d1 d2 d3 d4 d5 d6 d7 HRO HYES HNO
      clear hr hrr
      have v0:=HCR.out.ver.at_ 0 _ rfl
      have v1:=HCR.out.ver.at_ 1 _ rfl
      have v2:=HCR.out.ver.at_ 2 _ rfl
      have v3:=HCR.out.ver.at_ 3 _ rfl
      have v4:=HCR.out.ver.at_ 4 _ rfl
      have hkn:¬ p.rels.length≤k:=by omega
      have H0:Hid (Below wr.heap.size wr wr.drew):=(Below.refl _ _).drew
      go_wp2
      refine wp_region_held_drew (S:=fun w'=>Below wr.heap.size wr w') (by kernel_rfl) H0.out (fun hHeld=>?_)
      generalize wr.drew=wd at H0 hHeld ⊢
      refine tk 0 rfl (.pointer (some ⟨ib,0,none⟩)) ?_
      refine tk 1 rfl (.slice (some ⟨b,o,none⟩) n c) ?_ (hv:=fun w' hS'=>by (have z0:=(hS'.cell (p:=⟨ib,0,none⟩) hib).trans i0); go_simp)
      refine tk 2 rfl (.int .i64 i) ?_
      refine tk 3 rfl (.pointer (some ⟨b,o+i * 2,none⟩)) ?_
      refine tk 4 rfl (.pointer (some ⟨b,o+i * 2+1,none⟩)) ?_
      refine tk 5 rfl (.slice (some ⟨g,og,none⟩) p.rels.length p.rc) ?_ (hv:=fun w' hS'=>by (have z0:=(hS'.cell (p:=⟨b,o+i * 2+1,none⟩) hb).trans c1); go_simp)
      refine tk 6 rfl (.int .i64 k) ?_
      refine tk 7 rfl (.pointer (some ⟨g,og+k * 8,none⟩)) ?_
      refine tk 8 rfl (.pointer (some ⟨g,og+k * 8,none⟩)) ?_
      refine tk 9 rfl (.agg #[r.ver.v.a,r.ver.v.b,r.ver.v.c,.slice r.ver.A r.ver.v.pre.length r.ver.c,.slice r.ver.B r.ver.v.build.length r.ver.d]) ?_ (hv:=fun w' hS'=>by (have z0:=(hS'.cell (p:=⟨g,og+k * 8,none⟩) hg).trans d0); (have z1:=(hS'.cell (p:=⟨g,og+k * 8+1,none⟩) hg).trans d1); (have z2:=(hS'.cell (p:=⟨g,og+k * 8+2,none⟩) hg).trans d2); (have z3:=(hS'.cell (p:=⟨g,og+k * 8+3,none⟩) hg).trans d3); (have z4:=(hS'.cell (p:=⟨g,og+k * 8+4,none⟩) hg).trans d4); go_simp)
      refine tk 10 rfl (.agg #[v.v.a,v.v.b,v.v.c,.slice v.A v.v.pre.length v.c,.slice v.B v.v.build.length v.d]) ?_ (hv:=fun w' hS'=>by (have z0:=(hS'.cell (p:=⟨vb,0,none⟩) hvb).trans v0); (have z1:=(hS'.cell (p:=⟨vb,1,none⟩) hvb).trans v1); (have z2:=(hS'.cell (p:=⟨vb,2,none⟩) hvb).trans v2); (have z3:=(hS'.cell (p:=⟨vb,3,none⟩) hvb).trans v3); (have z4:=(hS'.cell (p:=⟨vb,4,none⟩) hvb).trans v4); go_simp)
      obtain ⟨sm,hsm⟩:∃ sm,sameV r.ver.v v.v=sm:=⟨_,rfl⟩
      have HSM:=Lib.hid hsm
      refine cl 11 rfl fun K hK=>?_
      go_simp
      refine (refSame_any r.ver.v v.v r.ver.A r.ver.B v.A v.B r.ver.c r.ver.d v.c v.d _ (HRO.out.ver.pre.kept H0.out) (HRO.out.ver.build.kept H0.out) (HS1.out.kept (HCR.out.bel.trans (H0.out.mono HCR.out.bel.size))) (HS2.out.kept (HCR.out.bel.trans (H0.out.mono HCR.out.bel.size))) HRO.out.ver.fit.pre HRO.out.ver.fit.build HF1.out HF2.out).mono ?_
      rw [hsm]
      rintro e W5 ⟨rfl,hb5⟩
      have HH5:Hid (Below wr.heap.size wr W5):=H0.out.trans (hb5.mono H0.out.size)
      refine hK.out _ _ HH5.out (fun hHeld2=>?_)
      clear hK K hb5 hsm hHeld hHeld2
      try simp only [Act.put,p1,p2,p3]
      refine wpAnyH_done (by kernel_rfl) ?_ _
      have HC5:=Lib.hid (HCR.out.kept HH5.out)
      cases sm
      ·have HN2:=Lib.hid (HNO.out HSM.out)
       have HW5:=Lib.hid (HWR.out.trans (HH5.out.mono HWR.out.size))
       clear d0 d1 d2 d3 d4 d5 d6 d7 v0 v1 v2 v3 v4 c1 i0
       go_wp2
       exact ⟨⟨k+1,by omega,by go_num,HN2.out,HW5.out⟩,by simp [intOf]; omega⟩
      ·have HFF:=Lib.hid (HYES.out HSM.out)
       have i1:=(HH5.out.cell (p:=⟨ib,0,none⟩) hib).trans i0
       have c2:=(HH5.out.cell (p:=⟨b,o+i * 2+1,none⟩) hb).trans c1
       have e0:=(HH5.out.cell (p:=⟨g,og+k * 8,none⟩) hg).trans d0
       have e1:=(HH5.out.cell (p:=⟨g,og+k * 8+1,none⟩) hg).trans d1
       have e2:=(HH5.out.cell (p:=⟨g,og+k * 8+2,none⟩) hg).trans d2
       have e3:=(HH5.out.cell (p:=⟨g,og+k * 8+3,none⟩) hg).trans d3
       have e4:=(HH5.out.cell (p:=⟨g,og+k * 8+4,none⟩) hg).trans d4
       have e5:=(HH5.out.cell (p:=⟨g,og+k * 8+5,none⟩) hg).trans d5
       have e6:=(HH5.out.cell (p:=⟨g,og+k * 8+6,none⟩) hg).trans d6
       have e7:=(HH5.out.cell (p:=⟨g,og+k * 8+7,none⟩) hg).trans d7
       clear d0 d1 d2 d3 d4 d5 d6 d7 v0 v1 v2 v3 v4 c1 i0
       have r0:=HC5.out.res.at_ 0 _ rfl
       have r1:=HC5.out.res.at_ 1 _ rfl
       have r2:=HC5.out.res.at_ 2 _ rfl
       have r3:=HC5.out.res.at_ 3 _ rfl
       have r4:=HC5.out.res.at_ 4 _ rfl
       have r5:=HC5.out.res.at_ 5 _ rfl
       have r6:=HC5.out.res.at_ 6 _ rfl
       have r7:=HC5.out.res.at_ 7 _ rfl
       have rf:=HC5.out.res.fr
       go_wp2
       exact bodyPost_ret (v:=.tuple #[.agg #[r.ver.v.a,r.ver.v.b,r.ver.v.c,.slice r.ver.A r.ver.v.pre.length r.ver.c,.slice r.ver.B r.ver.v.build.length r.ver.d,.bool r.yanked,.slice r.N r.needs.length r.nc,.slice r.B r.bans.length r.bc],.bool true]) (by simp [results,Tryz.results12,go_sem,r0,r1,r2,r3,r4,r5,r6,r7]) rfl ⟨by rw [HFF.out]; rfl,((((((((HC5.out.bel.setCell (p:=⟨rb,0,none⟩) HC5.out.hi _).setCell (p:=⟨rb,1,none⟩) HC5.out.hi _).setCell (p:=⟨rb,2,none⟩) HC5.out.hi _).setCell (p:=⟨rb,3,none⟩) HC5.out.hi _).setCell (p:=⟨rb,4,none⟩) HC5.out.hi _).setCell (p:=⟨rb,5,none⟩) HC5.out.hi _).setCell (p:=⟨rb,6,none⟩) HC5.out.hi _).setCell (p:=⟨rb,7,none⟩) HC5.out.hi _)⟩
     ·obtain rfl:k=p.rels.length:=by omega
      have HFF:Hid (findRel x name v.v=none):=by
       unfold Hid findRel; rw [HF.out]
       exact find_none _ HDR.out
      have r0:=HCR.out.res.at_ 0 _ rfl
      have r1:=HCR.out.res.at_ 1 _ rfl
      have r2:=HCR.out.res.at_ 2 _ rfl
      have r3:=HCR.out.res.at_ 3 _ rfl
      have r4:=HCR.out.res.at_ 4 _ rfl
      have r5:=HCR.out.res.at_ 5 _ rfl
      have r6:=HCR.out.res.at_ 6 _ rfl
      have r7:=HCR.out.res.at_ 7 _ rfl
      have rf:=HCR.out.res.fr
      go_wp2
      exact bodyPost_ret (v:=.tuple #[.agg #[.int .u64 0,.int .u64 0,.int .u64 0,.slice none 0 0,.slice none 0 0,.bool false,.slice none 0 0,.slice none 0 0],.bool false]) (by simp [results,Tryz.results12,go_sem,r0,r1,r2,r3,r4,r5,r6,r7]) rfl ⟨by rw [HFF.out]; rfl,((((((((HCR.out.bel.setCell (p:=⟨rb,0,none⟩) HCR.out.hi _).setCell (p:=⟨rb,1,none⟩) HCR.out.hi _).setCell (p:=⟨rb,2,none⟩) HCR.out.hi _).setCell (p:=⟨rb,3,none⟩) HCR.out.hi _).setCell (p:=⟨rb,4,none⟩) HCR.out.hi _).setCell (p:=⟨rb,5,none⟩) HCR.out.hi _).setCell (p:=⟨rb,6,none⟩) HCR.out.hi _).setCell (p:=⟨rb,7,none⟩) HCR.out.hi _)⟩
   ·have hbe0:((Ident.mk p.name).toList == (Ident.mk name).toList)=false:=mk_ne hnq
    have hbe:((Ident.mk p.name).toList != (Ident.mk name).toList)=true:=by rw [bne,mk_ne hnq]; rfl
    have HN:=Lib.hid (HMO.out hnq)
    clear hnq
    go_wp2
    exact ⟨⟨i+1,by omega,by go_num,HN.out,HC.out⟩,by simp [intOf]; omega⟩
  ·obtain rfl:i=n:=by omega
   have HFF:Hid (findRel x name v.v=none):=by
    unfold Hid findRel
    rw [find_none (l:=x) (fun p:MPack=>p.name == name) (fun j hj=>beq_eq_false_iff_ne.2 (HD.out j (by rw [← HL.out]; exact hj)))]; rfl
   have r0:=HC.out.res.at_ 0 _ rfl
   have r1:=HC.out.res.at_ 1 _ rfl
   have r2:=HC.out.res.at_ 2 _ rfl
   have r3:=HC.out.res.at_ 3 _ rfl
   have r4:=HC.out.res.at_ 4 _ rfl
   have r5:=HC.out.res.at_ 5 _ rfl
   have r6:=HC.out.res.at_ 6 _ rfl
   have r7:=HC.out.res.at_ 7 _ rfl
   have rf:=HC.out.res.fr
   go_wp2
   exact bodyPost_ret (v:=.tuple #[.agg #[.int .u64 0,.int .u64 0,.int .u64 0,.slice none 0 0,.slice none 0 0,.bool false,.slice none 0 0,.slice none 0 0],.bool false]) (by simp [results,Tryz.results12,go_sem,r0,r1,r2,r3,r4,r5,r6,r7]) rfl ⟨by rw [HFF.out]; rfl,((((((((HC.out.bel.setCell (p:=⟨rb,0,none⟩) HC.out.hi _).setCell (p:=⟨rb,1,none⟩) HC.out.hi _).setCell (p:=⟨rb,2,none⟩) HC.out.hi _).setCell (p:=⟨rb,3,none⟩) HC.out.hi _).setCell (p:=⟨rb,4,none⟩) HC.out.hi _).setCell (p:=⟨rb,5,none⟩) HC.out.hi _).setCell (p:=⟨rb,6,none⟩) HC.out.hi _).setCell (p:=⟨rb,7,none⟩) HC.out.hi _)⟩
end Go.Proofs.YtnpjklaaokiikaaGreatDoor.Model
namespace Go.Proofs.YtnpjklaaokiikaaGreatDoor.Model
open Go.RowKit Num Ident Semver
open Range (Rng noRng RV KeepS LtB LenOk goodR wt)
open KR (KRow AtV)

theorem rel_eqs {r1 r2:MRel} (h:r1.p=r2.p):r1.ver.v=r2.ver.v∧r1.yanked=r2.yanked∧r1.needs.map MDep.p=r2.needs.map MDep.p∧r1.bans.map MDep.p=r2.bans.map MDep.p :=
 ⟨congrArg PRel.v h,congrArg PRel.yanked h,congrArg PRel.needs h,congrArg PRel.bans h⟩
theorem len_of_map {α β γ:Type} {f:α→β} {g:γ→β} {l:List α} {r:List γ} (h:l.map f=r.map g):r.length=l.length:=by
 have:=congrArg List.length h
 simpa using this.symm
theorem two_rels (w:World) (r1 r2:MRel):∃ W,W=(w.alloc (.cells #[r1.ver.v.a,r1.ver.v.b,r1.ver.v.c,.slice r1.ver.A r1.ver.v.pre.length r1.ver.c,.slice r1.ver.B r1.ver.v.build.length r1.ver.d,.bool r1.yanked,.slice r1.N r1.needs.length r1.nc,.slice r1.B r1.bans.length r1.bc] 36)).alloc (.cells #[r2.ver.v.a,r2.ver.v.b,r2.ver.v.c,.slice r2.ver.A r2.ver.v.pre.length r2.ver.c,.slice r2.ver.B r2.ver.v.build.length r2.ver.d,.bool r2.yanked,.slice r2.N r2.needs.length r2.nc,.slice r2.B r2.bans.length r2.bc] 36)∧AtV W w.heap.size [.int .u64 r1.ver.v.a,.int .u64 r1.ver.v.b,.int .u64 r1.ver.v.c,.slice r1.ver.A r1.ver.v.pre.length r1.ver.c,.slice r1.ver.B r1.ver.v.build.length r1.ver.d,.bool r1.yanked,.slice r1.N r1.needs.length r1.nc,.slice r1.B r1.bans.length r1.bc]∧AtV W (w.heap.size+1) [.int .u64 r2.ver.v.a,.int .u64 r2.ver.v.b,.int .u64 r2.ver.v.c,.slice r2.ver.A r2.ver.v.pre.length r2.ver.c,.slice r2.ver.B r2.ver.v.build.length r2.ver.d,.bool r2.yanked,.slice r2.N r2.needs.length r2.nc,.slice r2.B r2.bans.length r2.bc]∧Below w.heap.size w W:=by
 refine ⟨_,rfl,(AtV.new w _ _).kept ((Below.refl _ _).alloc (Nat.le_refl _) _) (by simp),?_,((Below.refl _ _).alloc (Nat.le_refl _) _).alloc (by simp) _⟩
 have:=AtV.new (w.alloc (.cells #[r1.ver.v.a,r1.ver.v.b,r1.ver.v.c,.slice r1.ver.A r1.ver.v.pre.length r1.ver.c,.slice r1.ver.B r1.ver.v.build.length r1.ver.d,.bool r1.yanked,.slice r1.N r1.needs.length r1.nc,.slice r1.B r1.bans.length r1.bc] 36)) 36 [.int .u64 r2.ver.v.a,.int .u64 r2.ver.v.b,.int .u64 r2.ver.v.c,.slice r2.ver.A r2.ver.v.pre.length r2.ver.c,.slice r2.ver.B r2.ver.v.build.length r2.ver.d,.bool r2.yanked,.slice r2.N r2.needs.length r2.nc,.slice r2.B r2.bans.length r2.bc]
 rw [size_alloc] at this; exact this
theorem refSameRel_yes (r1 r2:MRel) (B:Nat) (w:World) (h1:RelOk w (LtB B) r1) (h2:RelOk w (LtB B) r2) (he:r1.p=r2.p) (hB:B≤w.heap.size) :
  Calls Tryz.prog 13 #[r1.agg,r2.agg] w fun e w'=>e=.returned (.bool true)∧Below w.heap.size w w':=by
 obtain ⟨q1,q2,q3,q4⟩:=rel_eqs he
 have HN:=Lib.hid (len_of_map q3)
 have HBL:=Lib.hid (len_of_map q4)
 have HSV:Hid (sameV r1.ver.v r2.ver.v=true):=by unfold Hid; rw [q1]; exact sameV_self _
 have hyb:(r1.yanked == r2.yanked)=true:=by rw [q2]; simp
 have HQ3:=Lib.hid q3
 have HQ4:=Lib.hid q4
 have H1:=Lib.hid h1
 have H2:=Lib.hid h2
 obtain ⟨W,hW,ha1,ha2,hb0⟩:=two_rels w r1 r2
 have HB0:=Lib.hid hb0
 clear q1 q2 q3 q4 he h1 h2 hb0
 obtain ⟨g1,hg1⟩:∃ g,w.heap.size=g:=⟨_,rfl⟩
 have HG:=Lib.hid hg1
 unfold MRel.agg
 go_enter Tryz.func13,Tryz.ntmps13
 go_upto_region 1 with (fail)
 rw [← hW]
 clear hW
 rw [hg1] at ha1 ha2
 have HA1:=Lib.hid ha1
 have HA2:=Lib.hid ha2
 clear hg1 ha1 ha2
 have c0:=HA1.out.at_ 0 _ rfl
 have c1:=HA1.out.at_ 1 _ rfl
 have c2:=HA1.out.at_ 2 _ rfl
 have c3:=HA1.out.at_ 3 _ rfl
 have c4:=HA1.out.at_ 4 _ rfl
 have e0:=HA2.out.at_ 0 _ rfl
 have e1:=HA2.out.at_ 1 _ rfl
 have e2:=HA2.out.at_ 2 _ rfl
 have e3:=HA2.out.at_ 3 _ rfl
 have e4:=HA2.out.at_ 4 _ rfl
 go_wp2_with fail
 refine (refSame_any r1.ver.v r2.ver.v r1.ver.A r1.ver.B r2.ver.A r2.ver.B r1.ver.c r1.ver.d r2.ver.c r2.ver.d _ (H1.out.ver.pre.kept HB0.out) (H1.out.ver.build.kept HB0.out) (H2.out.ver.pre.kept HB0.out) (H2.out.ver.build.kept HB0.out) H1.out.ver.fit.pre H1.out.ver.fit.build H2.out.ver.fit.pre H2.out.ver.fit.build).mono ?_
 rw [HSV.out]
 rintro e W1 ⟨rfl,hb1⟩
 have HB1:=Lib.hid (HB0.out.trans (hb1.mono HB0.out.size))
 have HA3:=Lib.hid (HA1.out.kept hb1 HA1.out.lt)
 have HA4:=Lib.hid (HA2.out.kept hb1 HA2.out.lt)
 clear hb1 c0 c1 c2 c3 c4 e0 e1 e2 e3 e4 HA1 HA2
 have c5:=HA3.out.at_ 5 _ rfl
 have c6:=HA3.out.at_ 6 _ rfl
 have e5:=HA4.out.at_ 5 _ rfl
 have e6:=HA4.out.at_ 6 _ rfl
 rw [HN.out] at e6
 go_wp2_with fail
 refine (refDeps_yes r1.N r2.N r1.needs.length r1.nc r2.nc r1.needs r2.needs B _ (H1.out.needs.keep (KeepS.of_below (S:=LtB B) HB1.out)) (by have:=H2.out.needs.keep (KeepS.of_below (S:=LtB B) HB1.out); rwa [HN.out] at this) HQ3.out (Nat.le_trans hB HB1.out.size) (Nat.le_trans H1.out.nc.1 H1.out.nc.2)).mono ?_
 rintro e W2 ⟨rfl,hb2⟩
 have HB2:=Lib.hid (HB1.out.trans (hb2.mono HB1.out.size))
 have HA5:=Lib.hid (HA3.out.kept hb2 HA3.out.lt)
 have HA6:=Lib.hid (HA4.out.kept hb2 HA4.out.lt)
 clear hb2 c5 c6 e5 e6 HA3 HA4
 have c7:=HA5.out.at_ 7 _ rfl
 have e7:=HA6.out.at_ 7 _ rfl
 rw [HBL.out] at e7
 go_wp2_with fail
 refine (refDeps_yes r1.B r2.B r1.bans.length r1.bc r2.bc r1.bans r2.bans B _ (H1.out.bans.keep (KeepS.of_below (S:=LtB B) HB2.out)) (by have:=H2.out.bans.keep (KeepS.of_below (S:=LtB B) HB2.out); rwa [HBL.out] at this) HQ4.out (Nat.le_trans hB HB2.out.size) (Nat.le_trans H1.out.bc.1 H1.out.bc.2)).mono ?_
 rintro e W3 ⟨rfl,hb3⟩
 have HB3:=Lib.hid (HB2.out.trans (hb3.mono HB2.out.size))
 clear hb3 c7 e7
 go_wp2
 go_ret
 exact ⟨rfl,HB3.out⟩
theorem two_ix (w:World) (A1 A2:Option Addr) (n c1 c2:Nat):∃ W,W=(w.alloc (.cells #[.slice A1 n c1] 24)).alloc (.cells #[.slice A2 n c2] 24)∧AtV W w.heap.size [.slice A1 n c1]∧AtV W (w.heap.size+1) [.slice A2 n c2]∧Below w.heap.size w W:=by
 refine ⟨_,rfl,(AtV.new w _ _).kept ((Below.refl _ _).alloc (Nat.le_refl _) _) (by simp),?_,((Below.refl _ _).alloc (Nat.le_refl _) _).alloc (by simp) _⟩
 have:=AtV.new (w.alloc (.cells #[.slice A1 n c1] 24)) 24 [.slice A2 n c2]
 rw [size_alloc] at this; exact this
theorem two_packs (w:World) (pk1 pk2:MPack):∃ W,W=(w.alloc (.cells #[.string (Ident.mk pk1.name),.slice pk1.R pk1.rels.length pk1.rc] 60)).alloc (.cells #[.string (Ident.mk pk2.name),.slice pk2.R pk2.rels.length pk2.rc] 60)∧AtV W w.heap.size [.string (Ident.mk pk1.name),.slice pk1.R pk1.rels.length pk1.rc]∧AtV W (w.heap.size+1) [.string (Ident.mk pk2.name),.slice pk2.R pk2.rels.length pk2.rc]∧Below w.heap.size w W:=by
 refine ⟨_,rfl,(AtV.new w _ _).kept ((Below.refl _ _).alloc (Nat.le_refl _) _) (by simp),?_,((Below.refl _ _).alloc (Nat.le_refl _) _).alloc (by simp) _⟩
 have:=AtV.new (w.alloc (.cells #[.string (Ident.mk pk1.name),.slice pk1.R pk1.rels.length pk1.rc] 60)) 60 [.string (Ident.mk pk2.name),.slice pk2.R pk2.rels.length pk2.rc]
 rw [size_alloc] at this; exact this
structure OneAt (w:World) (g1 g2:Nat) (L1 L2:List Value) (W:World):Prop where
 a:AtV W g1 L1
 b:AtV W g2 L2
 bel:Below w.heap.size w W
theorem OneAt.kept {w W W':World} {g1 g2:Nat} {L1 L2:List Value} (h:OneAt w g1 g2 L1 L2 W) (hb:Below W.heap.size W W'):OneAt w g1 g2 L1 L2 W' :=
 ⟨h.a.kept hb h.a.lt,h.b.kept hb h.b.lt,h.bel.trans (hb.mono h.bel.size)⟩
theorem refOne_yes (A1 A2:Option Addr) (n c1 c2:Nat) (x y:List MPack) (B:Nat) (w:World) (h1:PRow w (LtB B) A1 n x) (h2:PRow w (LtB B) A2 n y) (he:x.map MPack.p=y.map MPack.p) (hB:B≤w.heap.size) (hn:n≤maxLen) :
  Calls Tryz.prog 17 #[.agg #[.slice A1 n c1],.agg #[.slice A2 n c2]] w fun e w'=>e=.returned (.bool true)∧Below w.heap.size w w':=by
 have HO1:=Lib.hid h1
 have HO2:=Lib.hid h2
 have HL1:=Lib.hid h1.row.1
 have HL2:=Lib.hid h2.row.1
 have HE:=Lib.hid he
 unfold maxLen at hn
 have hq:((n:Int) != (n:Int))=false:=by simp
 obtain ⟨W0,hW,ha1,ha2,hb0⟩:=two_ix w A1 A2 n c1 c2
 obtain ⟨g1,hg1⟩:∃ g,w.heap.size=g:=⟨_,rfl⟩
 have HG:=Lib.hid hg1
 rw [hg1] at ha1 ha2
 have HS0:Hid (OneAt w g1 (g1+1) [.slice A1 n c1] [.slice A2 n c2] W0):=⟨ha1,ha2,hb0⟩
 clear h1 h2 he ha1 ha2 hb0
 go_enter Tryz.func17,Tryz.ntmps17
 go_upto_region 1 with (fail)
 rw [← hW]
 clear hW hg1
 have i0:=HS0.out.a.at_ 0 _ rfl
 have j0:=HS0.out.b.at_ 0 _ rfl
 go_wp2
 clear i0 j0
 go_loopw [5] (fun v W=>∃ k:Nat,k≤n∧v=.int .i64 k∧Hid (OneAt w g1 (g1+1) [.slice A1 n c1] [.slice A2 n c2] W)) (fun v _=>n - (intOf v).toNat)
 case atStart=>exact ⟨0,Nat.zero_le _,rfl,HS0.out⟩
 case round =>
  rename World=>wk
  obtain ⟨k,hk,rfl,HSK⟩:=hrel
  have i0:=HSK.out.a.at_ 0 _ rfl
  by_cases hlt:k<n
  ·have hr1:=HO1.out.keep (KeepS.of_below (S:=LtB B) HSK.out.bel)
   have hr2:=HO2.out.keep (KeepS.of_below (S:=LtB B) HSK.out.bel)
   have HP1:Hid (PackOk wk (LtB B) (x.getD k default)):=hr1.ok _ (getD_mem (by rw [HL1.out]; exact hlt))
   have HP2:Hid (PackOk wk (LtB B) (y.getD k default)):=hr2.ok _ (getD_mem (by rw [HL2.out]; exact hlt))
   have heq:(x.getD k default).p=(y.getD k default).p:=by rw [← map_at MPack.p x (by rw [HL1.out]; exact hlt),← map_at MPack.p y (by rw [HL2.out]; exact hlt),HE.out]
   obtain ⟨b1,o1,e1,_,hb1,c0,d0⟩:=hr1.cells hlt
   obtain ⟨b2,o2,e2,_,hb2,c1',d1⟩:=hr2.cells hlt
   have j0:=HSK.out.b.at_ 0 _ rfl
   rw [e1] at i0
   rw [e2] at j0
   generalize x.getD k default=pk1 at c0 d0 HP1 heq
   generalize y.getD k default=pk2 at c1' d1 HP2 heq
   have hnm:pk1.name=pk2.name:=congrArg PPack.name heq
   have HRL:Hid (pk1.rels.map MRel.p=pk2.rels.map MRel.p):=congrArg PPack.rels heq
   have HRN:=Lib.hid (len_of_map HRL.out)
   clear hr1 hr2 heq e1 e2
   have hkn:¬ n≤k:=by omega
   obtain ⟨W1,hW1,ha1,ha2,hb1'⟩:=two_packs wk pk1 pk2
   have HS1:=Lib.hid (HSK.out.kept hb1')
   have HPA:Hid (OneAt wk wk.heap.size (wk.heap.size+1) [.string (Ident.mk pk1.name),.slice pk1.R pk1.rels.length pk1.rc] [.string (Ident.mk pk2.name),.slice pk2.R pk2.rels.length pk2.rc] W1):=⟨ha1,ha2,hb1'⟩
   have hbe:((Ident.mk pk1.name).toList == (Ident.mk pk2.name).toList)=true:=by rw [hnm]; exact mk_eq _
   have HRK1:Hid (RRow W1 (LtB B) pk1.R pk1.rels.length pk1.rels):=HP1.out.rels.keep (KeepS.of_below hb1')
   have HRK2:Hid (RRow W1 (LtB B) pk2.R pk2.rels.length pk2.rels):=HP2.out.rels.keep (KeepS.of_below hb1')
   have HRC:Hid (pk1.rels.length≤maxLen):=Nat.le_trans HP1.out.rc.1 HP1.out.rc.2
   have lj1:=HSK.out.a.lt
   have lj2:=HSK.out.b.lt
   have HBk:Hid (B≤W1.heap.size):=Nat.le_trans hB (Nat.le_trans HSK.out.bel.size hb1'.size)
   clear ha1 ha2 hb1' hnm
   go_upto_region 8 with (fail)
   rw [← hW1]
   obtain ⟨q1,hq1⟩:∃ g,wk.heap.size=g:=⟨_,rfl⟩
   rw [hq1] at HPA ⊢
   have HQ1:=Lib.hid hq1
   clear hW1 hq1 i0 j0 c0 d0 c1' d1 hb1 hb2 lj1 lj2
   have z0:=HPA.out.a.at_ 0 _ rfl
   have z1:=HPA.out.a.at_ 1 _ rfl
   have y0:=HPA.out.b.at_ 0 _ rfl
   have y1:=HPA.out.b.at_ 1 _ rfl
   rw [HRN.out] at y1
   have hq2:((pk1.rels.length:Int) != (pk1.rels.length:Int))=false:=by simp
   go_wp2
   clear z0 z1 y0 y1
   go_loopw [8] (fun v W=>∃ j:Nat,j≤pk1.rels.length∧v=.int .i64 j∧Hid (Below W1.heap.size W1 W)) (fun v _=>pk1.rels.length - (intOf v).toNat)
   case atStart=>exact ⟨0,Nat.zero_le _,rfl,Below.refl _ _⟩
   case round =>
    rename World=>wj
    obtain ⟨j,hj,rfl,HWJ⟩:=hrel
    have hrl:pk1.rels.length≤9223372036854775807:=HRC.out
    have HPJ:=Lib.hid (HPA.out.kept HWJ.out)
    have z1:=HPJ.out.a.at_ 1 _ rfl
    have y1:=HPJ.out.b.at_ 1 _ rfl
    rw [HRN.out] at y1
    by_cases hjl:j<pk1.rels.length
    ·have hr1:=HRK1.out.keep (KeepS.of_below (S:=LtB B) HWJ.out)
     have hr2:=HRK2.out.keep (KeepS.of_below (S:=LtB B) HWJ.out)
     rw [HRN.out] at hr2
     have HX1:Hid (RelOk wj (LtB B) (pk1.rels.getD j default)):=hr1.ok _ (getD_mem hjl)
     have HX2:Hid (RelOk wj (LtB B) (pk2.rels.getD j default)):=hr2.ok _ (getD_mem (by rw [HRN.out]; exact hjl))
     have HEQ:Hid ((pk1.rels.getD j default).p=(pk2.rels.getD j default).p):=by
      unfold Hid
      rw [← map_at MRel.p pk1.rels hjl,← map_at MRel.p pk2.rels (by rw [HRN.out]; exact hjl),HRL.out]
     obtain ⟨b1,o1,e1,_,lb1,f0,f1,f2,f3,f4,f5,f6,f7⟩:=hr1.cells hjl
     obtain ⟨b2,o2,e2,_,lb2,h0,h1,h2,h3,h4,h5,h6,h7⟩:=hr2.cells hjl
     rw [e1] at z1
     rw [e2] at y1
     generalize pk1.rels.getD j default=r1 at f0 f1 f2 f3 f4 f5 f6 f7 HX1 HEQ
     generalize pk2.rels.getD j default=r2 at h0 h1 h2 h3 h4 h5 h6 h7 HX2 HEQ
     have E1:=Lib.hid e1
     have E2:=Lib.hid e2
     clear hr1 hr2 e1 e2
     have hjn:¬ pk1.rels.length≤j:=by omega
     have lq1:=HPJ.out.a.lt
     have lq2:=HPJ.out.b.lt
     have H0:Hid (Below wj.heap.size wj wj.drew):=(Below.refl _ _).drew
     go_wp2
     refine wp_region_held_drew (S:=fun w'=>Below wj.heap.size wj w') (by kernel_rfl) H0.out (fun hHeld=>?_)
     generalize wj.drew=wd at H0 hHeld ⊢
     refine tk 0 rfl (.pointer (some ⟨q1,1,none⟩)) ?_
     refine tk 1 rfl (.slice (some ⟨b1,o1,none⟩) pk1.rels.length pk1.rc) ?_ (hv:=fun w' hS'=>by (have z0:=(hS'.cell (p:=⟨q1,1,none⟩) lq1).trans z1); go_simp)
     refine tk 2 rfl (.int .i64 j) ?_
     refine tk 3 rfl (.pointer (some ⟨b1,o1+j * 8,none⟩)) ?_
     refine tk 4 rfl (.agg #[r1.ver.v.a,r1.ver.v.b,r1.ver.v.c,.slice r1.ver.A r1.ver.v.pre.length r1.ver.c,.slice r1.ver.B r1.ver.v.build.length r1.ver.d,.bool r1.yanked,.slice r1.N r1.needs.length r1.nc,.slice r1.B r1.bans.length r1.bc]) ?_ (hv:=fun w' hS'=>by (have z0:=(hS'.cell (p:=⟨b1,o1+j * 8,none⟩) lb1).trans f0); (have z1:=(hS'.cell (p:=⟨b1,o1+j * 8+1,none⟩) lb1).trans f1); (have z2:=(hS'.cell (p:=⟨b1,o1+j * 8+2,none⟩) lb1).trans f2); (have z3:=(hS'.cell (p:=⟨b1,o1+j * 8+3,none⟩) lb1).trans f3); (have z4:=(hS'.cell (p:=⟨b1,o1+j * 8+4,none⟩) lb1).trans f4); (have z5:=(hS'.cell (p:=⟨b1,o1+j * 8+5,none⟩) lb1).trans f5); (have z6:=(hS'.cell (p:=⟨b1,o1+j * 8+6,none⟩) lb1).trans f6); (have z7:=(hS'.cell (p:=⟨b1,o1+j * 8+7,none⟩) lb1).trans f7); go_simp)
     refine tk 5 rfl (.pointer (some ⟨q1+1,1,none⟩)) ?_
     refine tk 6 rfl (.slice (some ⟨b2,o2,none⟩) pk1.rels.length pk2.rc) ?_ (hv:=fun w' hS'=>by (have z0:=(hS'.cell (p:=⟨q1+1,1,none⟩) lq2).trans y1); go_simp)
     refine tk 7 rfl (.int .i64 j) ?_
     refine tk 8 rfl (.pointer (some ⟨b2,o2+j * 8,none⟩)) ?_
     refine tk 9 rfl (.agg #[r2.ver.v.a,r2.ver.v.b,r2.ver.v.c,.slice r2.ver.A r2.ver.v.pre.length r2.ver.c,.slice r2.ver.B r2.ver.v.build.length r2.ver.d,.bool r2.yanked,.slice r2.N r2.needs.length r2.nc,.slice r2.B r2.bans.length r2.bc]) ?_ (hv:=fun w' hS'=>by (have z0:=(hS'.cell (p:=⟨b2,o2+j * 8,none⟩) lb2).trans h0); (have z1:=(hS'.cell (p:=⟨b2,o2+j * 8+1,none⟩) lb2).trans h1); (have z2:=(hS'.cell (p:=⟨b2,o2+j * 8+2,none⟩) lb2).trans h2); (have z3:=(hS'.cell (p:=⟨b2,o2+j * 8+3,none⟩) lb2).trans h3); (have z4:=(hS'.cell (p:=⟨b2,o2+j * 8+4,none⟩) lb2).trans h4); (have z5:=(hS'.cell (p:=⟨b2,o2+j * 8+5,none⟩) lb2).trans h5); (have z6:=(hS'.cell (p:=⟨b2,o2+j * 8+6,none⟩) lb2).trans h6); (have z7:=(hS'.cell (p:=⟨b2,o2+j * 8+7,none⟩) lb2).trans h7); go_simp)
     refine cl 10 rfl fun K hK=>?_
     go_simp
     refine (refSameRel_yes r1 r2 B _ (HX1.out.keep (KeepS.of_below H0.out)) (HX2.out.keep (KeepS.of_below H0.out)) HEQ.out (Nat.le_trans HBk.out (Nat.le_trans HWJ.out.size H0.out.size))).mono ?_
     rintro e W2 ⟨rfl,hb⟩
     have H2:Hid (Below wj.heap.size wj W2):=H0.out.trans (hb.mono H0.out.size)
     refine hK.out _ _ H2.out (fun hHeld2=>?_)
     clear hK K hb
     try simp only [Act.put,p1,p2,p3]
     refine tk 11 rfl (.bool false) ?_
     refine wpAnyH_done (by kernel_rfl) ?_ _
     have HWJ2:=Lib.hid (HWJ.out.trans (H2.out.mono HWJ.out.size))
     clear f0 f1 f2 f3 f4 f5 f6 f7 h0 h1 h2 h3 h4 h5 h6 h7 hHeld hHeld2 z1 y1
     go_wp2
     exact ⟨⟨j+1,by omega,by go_num,HWJ2.out⟩,by simp [intOf]; omega⟩
    ·obtain rfl:j=pk1.rels.length:=by omega
     have HSJ:=Lib.hid (HS1.out.kept HWJ.out)
     go_wp2
     exact ⟨⟨k+1,by omega,by go_num,HSJ.out⟩,by simp [intOf]; omega⟩
  ·obtain rfl:k=n:=by omega
   go_wp2
   go_ret
   exact ⟨rfl,HSK.out.bel⟩
end Go.Proofs.YtnpjklaaokiikaaGreatDoor.Model
namespace Go.Proofs.YtnpjklaaokiikaaGreatDoor.Model
open Go.RowKit Num Ident Semver
open Range (Rng noRng RV KeepS LtB LenOk goodR wt)
open KR (KRow AtV)
open Name (isName)

theorem depFault_any (d:MDep) (B:Nat) (w:World) (h:DepOk w (LtB B) d) (hB:B≤w.heap.size)  :
  Calls Tryz.prog 120 #[d.agg] w fun e w'=>e=.returned (.int .i64 (depE d.p))∧Below w.heap.size w w':=by
 have HO:Hid (DepOk w (LtB w.heap.size) d):=h.mono fun _ g _=>Nat.lt_of_lt_of_le g hB
 have HN:Hid (d.name.length≤maxLen):=h.short
 clear h hB
 have HE1:=Lib.hid (fun h=>depE_name (d:=d.p) h)
 have HE2:=Lib.hid (fun h g=>depE_range (d:=d.p) h g)
 have HE3:=Lib.hid (fun h g=>depE_good (d:=d.p) h g)
 obtain ⟨W0,hW,hav,hb0⟩:∃ W,W=w.alloc (.cells #[.string (Ident.mk d.name),d.x.kind,d.x.v.a,d.x.v.b,d.x.v.c,.slice d.x.A d.x.v.pre.length d.x.c,.slice d.x.B d.x.v.build.length d.x.d,.slice d.x.L d.x.n d.x.e] 57)∧AtV W w.heap.size [.string (Ident.mk d.name),.int .i64 d.x.kind,.int .u64 d.x.v.a,.int .u64 d.x.v.b,.int .u64 d.x.v.c,.slice d.x.A d.x.v.pre.length d.x.c,.slice d.x.B d.x.v.build.length d.x.d,.slice d.x.L d.x.n d.x.e]∧Below w.heap.size w W:=⟨_,rfl,AtV.new w _ _,(Below.refl _ _).alloc (Nat.le_refl _) _⟩
 have HAV:=Lib.hid hav
 have HB0:=Lib.hid hb0
 clear hav hb0
 obtain ⟨bd,hbd⟩:∃ bd,w.heap.size=bd:=⟨_,rfl⟩
 have HBD:=Lib.hid hbd
 unfold MDep.agg
 go_enter Tryz.func120,Tryz.ntmps120
 go_upto_region 1 with (fail)
 rw [← hW]
 clear hW
 rw [hbd] at HAV
 clear hbd
 have c0:=HAV.out.at_ 0 _ rfl
 go_wp2_with fail
 refine (Name.good_any (Ident.mk d.name) _ (by rw [mk_size]; exact HN.out)).mono ?_
 rw [mk_list]
 rintro e Wn ⟨rfl,hbn⟩
 have HBN:=Lib.hid (HB0.out.trans (hbn.mono HB0.out.size))
 have HAV1:=Lib.hid (HAV.out.kept hbn HAV.out.lt)
 clear hbn c0
 cases hnm:isName d.name
 ·have HF:=Lib.hid (HE1.out hnm)
  clear hnm
  go_wp2
  go_ret
  exact ⟨by rw [HF.out]; rfl,HBN.out⟩
 ·have HNM:=Lib.hid hnm
  clear hnm
  have c1:=HAV1.out.at_ 1 _ rfl
  have c2:=HAV1.out.at_ 2 _ rfl
  have c3:=HAV1.out.at_ 3 _ rfl
  have c4:=HAV1.out.at_ 4 _ rfl
  have c5:=HAV1.out.at_ 5 _ rfl
  have c6:=HAV1.out.at_ 6 _ rfl
  have c7:=HAV1.out.at_ 7 _ rfl
  go_wp2_with fail
  refine (Range.goodIs_any d.r d.x w.heap.size _ HO.out.len (HO.out.lies.keep (KeepS.of_below HBN.out)) HBN.out.size).mono ?_
  rintro e W1 ⟨rfl,hb⟩
  have HB1:=Lib.hid (HBN.out.trans (hb.mono HBN.out.size))
  clear hb c1 c2 c3 c4 c5 c6 c7
  cases hg:goodR d.r 0
  ·have HF:=Lib.hid (HE2.out HNM.out hg)
   clear hg
   go_wp2
   go_ret
   exact ⟨by rw [HF.out]; rfl,HB1.out⟩
  ·have HF:=Lib.hid (HE3.out HNM.out hg)
   clear hg
   go_wp2
   go_ret
   exact ⟨by rw [HF.out]; rfl,HB1.out⟩
theorem first_out {α:Type} [Inhabited α] (l:List α) (f:Nat→Int) (I J:Nat→World→Prop) {e:Ending} {w':World} (h:FirstPost l.length f I J e w') (g:Nat→α→Int) (hg:∀ k,k<l.length→g k (l.getD k default)=f k) :
  (e=.returned (out2V (firstG (fun k d=>toO (g k d)) 0 l)))∧((∃ k,k<l.length∧J k w'∧firstG (fun k d=>toO (g k d)) 0 l=some (k,f k))∨(I l.length w'∧firstG (fun k d=>toO (g k d)) 0 l=none)):=by
 rcases h with ⟨k,hk,ha,hf,he,hJ⟩ | ⟨ha,he,hI⟩
 ·have e1:firstG (fun k d=>toO (g k d)) 0 l=some (k,f k):=by
   have:=firstG_stop (fun k d=>toO (g k d)) l 0 k (f k) hk (fun j hj=>by
    show toO (g (0+j) (l.getD j default))=none
    rw [Nat.zero_add,hg j (by omega),ha j hj]; rfl) (by
    show toO (g (0+k) (l.getD k default))=some (f k)
    rw [Nat.zero_add,hg k hk]; exact toO_some hf)
   rwa [Nat.zero_add] at this
  exact ⟨by rw [he,e1]; rfl,.inl ⟨k,hk,hJ,e1⟩⟩
 ·have e1:firstG (fun k d=>toO (g k d)) 0 l=none:=firstG_none _ l 0 fun j hj=>by
   show toO (g (0+j) (l.getD j default))=none
   rw [Nat.zero_add,hg j hj,ha j hj]; rfl
  exact ⟨by rw [he,e1]; rfl,.inr ⟨hI,e1⟩⟩
theorem roots_any (A:Option Addr) (n c:Nat) (l:List MDep) (B:Nat) (w:World) (h:DRow w (LtB B) A n l) (hB:B≤w.heap.size) (hn:n≤maxLen) :
  Calls Tryz.prog 62 #[.slice A n c] w fun e w'=>e=.returned (out2V (rootsF (l.map MDep.p)))∧Below w.heap.size w w':=by
 have HP:Hid (∀ e w',FirstPost n (fun k=>depE (l.getD k default).p) (fun _ W=>Below w.heap.size w W) (fun _ W=>Below w.heap.size w W) e w'→e=.returned (out2V (rootsF (l.map MDep.p)))∧Below w.heap.size w w'):=fun e w' hp=>by
  obtain rfl:=h.row.1
  have hq:=first_out (l.map MDep.p) _ _ _ (by rw [List.length_map]; exact hp) (fun _ d=>depE d) (fun k hk=>by rw [List.length_map] at hk; rw [map_at MDep.p l hk])
  exact ⟨hq.1,by rcases hq.2 with ⟨k,_,hb,_⟩ | ⟨hb,_⟩ <;> exact hb⟩
 have hfst:Calls Tryz.prog 119 #[.slice A n c,.func (.func 120) #[] #[]] w _:=firstDep_any 120 #[] (enters_of Tryz.func120 (by kernel_rfl) rfl) A n c l (fun k=>depE (l.getD k default).p) (fun _ W=>Below w.heap.size w W) (fun _ W=>Below w.heap.size w W) (LtB B) w hn
  (fun k W _ hb=>h.keep (KeepS.of_below hb))
  (fun k W hk hb=>(depFault_any (l.getD k default) B W ((h.keep (KeepS.of_below hb)).ok _ (h.row.mem hk)) (Nat.le_trans hB hb.size)).mono fun e w' ⟨he,hb'⟩=>⟨he,fun _=>hb.trans (hb'.mono hb.size),fun _=>hb.trans (hb'.mono hb.size)⟩) (Below.refl _ _)
 clear h
 go_enter Tryz.func62,Tryz.ntmps62
 go_wp2_with fail
 refine hfst.mono ?_
 intro e w' hp
 obtain ⟨he,hb⟩:=HP.out e w' hp
 subst he
 clear hp
 have HB:=Lib.hid hb
 clear hb
 obtain ⟨r,hr⟩:∃ r,rootsF (l.map MDep.p)=r:=⟨_,rfl⟩
 have HR:=Lib.hid hr
 rw [hr]
 clear hr
 unfold out2V
 go_wp2
 go_ret2
 exact ⟨by rw [HR.out]; rfl,HB.out⟩
end Go.Proofs.YtnpjklaaokiikaaGreatDoor.Model
