/-
  What the theorem of the last text needs of these: MoRefPlain, MoBans. Conditions: as each theorem states.
-/
import Derived.Test.YtnpjklaaokiikaaGreatDoorPlA1
import Derived.Test.YtnpjklaaokiikaaGreatDoorPlA9
import Derived.Test.YtnpjklaaokiikaaGreatDoorPlA21
import Derived.Test.YtnpjklaaokiikaaGreatDoorPlA22
import Derived.Test.YtnpjklaaokiikaaGreatDoorPlA23
import Derived.Sort.Walk0
set_option maxRecDepth 100000
set_option maxHeartbeats 25600000
namespace Go.Proofs.YtnpjklaaokiikaaGreatDoor.Model
open Go.RowKit Num Ident Semver
open Range (Rng noRng RV KeepS LtB LenOk goodR wt)
open KR (KRow AtV)
open Prec (fullV)

theorem less_text (a b:List UInt8):Op.bytesLess (Ident.mk a).toList (Ident.mk b).toList=decide (a<b):=by
 rw [bytesLess_eq,Lib.toList_data,Lib.toList_data]; rfl
theorem rels_no {l:List MRel} {k:Nat} (hk:k+1<l.length) (h:¬ fullV (l.getD k default).ver.v (l.getD (k+1) default).ver.v≤0):relsB (l.map MRel.p)=false :=
 chainB_no (i:=k) (by rw [List.length_map]; exact hk) (by rw [map_at _ _ (by omega),map_at _ _ hk]; exact decide_eq_false h)
theorem rels_yes {l:List MRel} (h:∀ k,k+1<l.length→fullV (l.getD k default).ver.v (l.getD (k+1) default).ver.v≤0):relsB (l.map MRel.p)=true :=
 (chainB_iff _ _).2 fun i hi=>by rw [List.length_map] at hi; rw [map_at _ _ (by omega),map_at _ _ hi]; exact decide_eq_true (h i hi)
theorem plain_name {x:List MPack} {i:Nat} (hi:i+1<x.length) (h:(x.getD (i+1) default).name<(x.getD i default).name):plainB (x.map MPack.p)=false:=by
 unfold plainB
 rw [show packsB (x.map MPack.p)=false from chainB_no (i:=i) (by rw [List.length_map]; exact hi) (by simp only [map_at _ _ hi,map_at _ _ (Nat.lt_of_succ_lt hi)]; exact decide_eq_false (fun g=>g h))]; rfl
theorem plain_rels {x:List MPack} {i:Nat} (hi:i<x.length) (h:relsB ((x.getD i default).rels.map MRel.p)=false):plainB (x.map MPack.p)=false:=by
 unfold plainB
 rw [Bool.and_eq_false_iff]
 right
 rw [← Bool.not_eq_true,List.all_eq_true]
 intro g
 have:=g _ (List.mem_map.2 ⟨_,getD_mem hi,rfl⟩)
 rw [show relsB (x.getD i default).p.rels=false from h] at this; cases this
theorem plain_yes {x:List MPack} (h1:∀ i,i+1<x.length→¬ (x.getD (i+1) default).name<(x.getD i default).name) (h2:∀ i,i<x.length→relsB ((x.getD i default).rels.map MRel.p)=true):plainB (x.map MPack.p)=true:=by
 unfold plainB
 rw [Bool.and_eq_true,List.all_eq_true]
 refine ⟨(chainB_iff _ _).2 fun i hi=>?_,fun y hy=>?_⟩
 ·rw [List.length_map] at hi
  simp only [map_at _ _ hi,map_at _ _ (Nat.lt_of_succ_lt hi)]; exact decide_eq_true (h1 i hi)
 ·obtain ⟨p,hp,rfl⟩:=List.mem_map.1 hy
  obtain ⟨j,hj,rfl⟩:=List.getElem_of_mem hp
  have:=h2 j hj
  rw [List.getD_eq_getElem?_getD,List.getElem?_eq_getElem hj] at this
  exact this
theorem refPlain_any (A:Option Addr) (n c:Nat) (x:List MPack) (B:Nat) (w:World) (h:PRow w (LtB B) A n x) (hn:n≤maxLen) :
  Calls Tryz.prog 14 #[.agg #[.slice A n c]] w fun e w'=>e=.returned (.bool (plainB (x.map MPack.p)))∧Below w.heap.size w w':=by
 have HO:=Lib.hid h
 have HL:=Lib.hid h.row.1
 unfold maxLen at hn
 clear h
 obtain ⟨W0,hW,hav,hb0⟩:∃ W,W=w.alloc (.cells #[.slice A n c] 24)∧AtV W w.heap.size [.slice A n c]∧Below w.heap.size w W:=⟨_,rfl,AtV.new w _ _,(Below.refl _ _).alloc (Nat.le_refl _) _⟩
 have HI0:=Lib.hid hav
 have HB0:=Lib.hid hb0
 clear hav hb0
 obtain ⟨ib,hib⟩:∃ ib,w.heap.size=ib:=⟨_,rfl⟩
 go_enter Tryz.func14,Tryz.ntmps14
 go_upto_region 1 with (fail)
 rw [← hW]
 clear hW
 rw [hib] at HI0
 have HIE:=Lib.hid hib
 clear hib
 go_wp2
 go_loopw [3] (fun y W=>∃ i:Nat,i≤n∧y=.int .i64 i∧Hid (∀ j,j+1<i→¬ (x.getD (j+1) default).name<(x.getD j default).name)∧Hid (∀ j,j<i→relsB ((x.getD j default).rels.map MRel.p)=true)∧Hid (AtV W ib [.slice A n c])∧Hid (Below w.heap.size w W)) (fun y _=>n - (intOf y).toNat)
 case atStart=>exact ⟨0,Nat.zero_le _,rfl,(fun j hj=>by omega),(fun j hj=>by omega),HI0.out,HB0.out⟩
 case round =>
  rename World=>wi
  obtain ⟨i,hi,rfl,HDN,HDR0,HI,HB⟩:=hrel
  have i0:=HI.out.at_ 0 _ rfl
  by_cases hlt:i<n
  ·have hrow:=HO.out.keep (KeepS.of_below (S:=LtB B) HB.out)
   have HPK0:Hid (PackOk wi (LtB B) (x.getD i default)):=hrow.ok _ (getD_mem (by rw [HL.out]; exact hlt))
   obtain ⟨b,o,rfl,_,hb,c0,c1⟩:=hrow.cells hlt
   have HPB:Hid (relsB ((x.getD i default).rels.map MRel.p)=false→plainB (x.map MPack.p)=false):=fun h=>plain_rels (by rw [HL.out]; exact hlt) h
   have HNX:Hid (relsB ((x.getD i default).rels.map MRel.p)=true→∀ j,j<i+1→relsB ((x.getD j default).rels.map MRel.p)=true):=fun h j hj=>by
    rcases Nat.lt_or_ge j i with h1 | h1
    ·exact HDR0.out j h1
    ·obtain rfl:j=i:=by omega
     exact h
   have hin:¬ n≤i:=by omega
   have hib:ib<wi.heap.size:=HI.out.lt
   cases i with
   | zero =>
    obtain ⟨p,hp⟩:∃ p,x.getD 0 default=p:=⟨_,rfl⟩
    rw [hp] at c0 c1 HPK0 HPB HNX
    have HNEXT:Hid (relsB (p.rels.map MRel.p)=true→(∀ j,j+1<0+1→¬ (x.getD (j+1) default).name<(x.getD j default).name)∧(∀ j,j<0+1→relsB ((x.getD j default).rels.map MRel.p)=true)):=fun h=>⟨fun j hj=>by omega,HNX.out h⟩
    clear hp hrow
    have H0:Hid (Below wi.heap.size wi wi.drew):=(Below.refl _ _).drew
    go_wp2
    refine wp_region_held_drew (S:=fun w'=>Below wi.heap.size wi w') (by kernel_rfl) H0.out (fun hHeld=>?_)
    generalize wi.drew=w2 at H0 hHeld ⊢
    refine tk 0 rfl (.int .i64 0) ?_
    refine tk 1 rfl (.bool false) ?_
    refine tk 2 rfl (.bool false) ?_
    refine sk 3 rfl ?_
    refine sk 4 rfl ?_
    refine sk 5 rfl ?_
    refine sk 6 rfl ?_
    refine sk 7 rfl ?_
    refine sk 8 rfl ?_
    refine sk 9 rfl ?_
    refine sk 10 rfl ?_
    refine sk 11 rfl ?_
    refine sk 12 rfl ?_
    refine sk 13 rfl ?_
    refine sk 14 rfl ?_
    refine sk 15 rfl ?_
    refine sk 16 rfl ?_
    refine tk 17 rfl (.bool false) ?_
    refine wpAnyH_done (by kernel_rfl) ?_ _
    have HB2:=Lib.hid (HB.out.trans (H0.out.mono HB.out.size))
    have HI2:=Lib.hid (HI.out.kept H0.out HI.out.lt)
    have HPK:Hid (PackOk w2 (LtB B) p):=HPK0.out.keep (KeepS.of_below H0.out)
    replace c1:=(H0.out.cell (p:=⟨b,o+0 * 2+1,none⟩) hb).trans c1
    replace i0:=(H0.out.cell (p:=⟨ib,0,none⟩) hib).trans i0
    clear hHeld c0
    have HRCL:Hid (p.rels.length≤maxLen):=Nat.le_trans HPK.out.rc.1 HPK.out.rc.2
    have hrlen:p.rels.length≤9223372036854775807:=HRCL.out
    go_wp2
    go_loopw [5] (fun y W=>∃ k:Nat,Hid (k+1≤p.rels.length∨k=0)∧y=.int .i64 ((k+1:Nat):Int)∧Hid (∀ j,j<k→fullV (p.rels.getD j default).ver.v (p.rels.getD (j+1) default).ver.v≤0)∧Hid (Below w2.heap.size w2 W)) (fun y _=>p.rels.length+1 - (intOf y).toNat)
    case atStart=>exact ⟨0,Lib.hid (.inr rfl),by go_num,(fun j hj=>by omega),Below.refl _ _⟩
    case round =>
     rename World=>wr
     obtain ⟨k,hk,rfl,HDR,HWR⟩:=hrel
     have HBR:=Lib.hid (HB2.out.trans (HWR.out.mono HB2.out.size))
     have HIR:=Lib.hid (HI2.out.kept HWR.out HI2.out.lt)
     by_cases hkl:k+1<p.rels.length
     ·have hrr:=HPK.out.rels.keep (KeepS.of_below (S:=LtB B) HWR.out)
      have HU0:Hid (RelOk wr (LtB B) (p.rels.getD k default)):=hrr.ok _ (getD_mem (by omega))
      have HV0:Hid (RelOk wr (LtB B) (p.rels.getD (k+1) default)):=hrr.ok _ (getD_mem hkl)
      obtain ⟨g,og,eg,_,hg,d0,d1,d2,d3,d4,_,_,_⟩:=hrr.cells (show k<p.rels.length by omega)
      obtain ⟨g2,og2,eg2,_,_,f0,f1,f2,f3,f4,_,_,_⟩:=hrr.cells hkl
      have e3:=eg2.symm.trans eg
      injection e3 with e3
      injection e3 with e3 e4
      subst e3
      subst e4
      have HEG:=Lib.hid eg
      clear eg eg2 hrr
      have HNOK:Hid (fullV (p.rels.getD k default).ver.v (p.rels.getD (k+1) default).ver.v≤0→∀ j,j<k+1→fullV (p.rels.getD j default).ver.v (p.rels.getD (j+1) default).ver.v≤0):=fun h j hj=>by
       rcases Nat.lt_or_ge j k with h1 | h1
       ·exact HDR.out j h1
       ·obtain rfl:j=k:=by omega
        exact h
      have HBAD:Hid (¬ fullV (p.rels.getD k default).ver.v (p.rels.getD (k+1) default).ver.v≤0→plainB (x.map MPack.p)=false):=fun h=>HPB.out (rels_no hkl h)
      obtain ⟨u,hu⟩:∃ u,(p.rels.getD k default).ver=u:=⟨_,rfl⟩
      obtain ⟨v,hv⟩:∃ v,(p.rels.getD (k+1) default).ver=v:=⟨_,rfl⟩
      have HU:Hid (VerOk wr (LtB B) u):=by unfold Hid; rw [← hu]; exact HU0.out.ver
      have HV:Hid (VerOk wr (LtB B) v):=by unfold Hid; rw [← hv]; exact HV0.out.ver
      rw [hu] at d0 d1 d2 d3 d4 HNOK HBAD
      rw [hv] at f0 f1 f2 f3 f4 HNOK HBAD
      clear hu hv HU0 HV0
      have hkn:¬ p.rels.length≤k:=by omega
      have hkn2:¬ p.rels.length≤k+1:=by omega
      have H0:Hid (Below wr.heap.size wr wr.drew):=(Below.refl _ _).drew
      go_wp2
      refine wp_region_held_drew (S:=fun w'=>Below wr.heap.size wr w') (by kernel_rfl) H0.out (fun hHeld=>?_)
      generalize wr.drew=wd at H0 hHeld ⊢
      refine tk 0 rfl (.slice p.R p.rels.length p.rc) ?_
      refine tk 1 rfl (.int .i64 ((k+1:Nat):Int)) ?_
      refine tk 2 rfl (.int .i64 k) ?_ (hv:=fun w' hS'=>by (have z0:(((k+1:Nat):Int) - 1)=(k:Int):=(by omega)); (have z2:IntKind.i64.wrap (k:Int)=(k:Int):=(by rw [IntKind.wrap_i64] <;> omega)); go_simp)
      refine tk 3 rfl (.pointer (some ⟨g2,og2+k * 8,none⟩)) ?_ (hv:=fun w' hS'=>by (have z0:=HEG.out); go_simp)
      refine tk 4 rfl (.pointer (some ⟨g2,og2+k * 8,none⟩)) ?_
      refine tk 5 rfl (.agg #[u.v.a,u.v.b,u.v.c,.slice u.A u.v.pre.length u.c,.slice u.B u.v.build.length u.d]) ?_ (hv:=fun w' hS'=>by (have z0:=(hS'.cell (p:=⟨g2,og2+k * 8,none⟩) hg).trans d0); (have z1:=(hS'.cell (p:=⟨g2,og2+k * 8+1,none⟩) hg).trans d1); (have z2:=(hS'.cell (p:=⟨g2,og2+k * 8+2,none⟩) hg).trans d2); (have z3:=(hS'.cell (p:=⟨g2,og2+k * 8+3,none⟩) hg).trans d3); (have z4:=(hS'.cell (p:=⟨g2,og2+k * 8+4,none⟩) hg).trans d4); go_simp)
      refine tk 6 rfl (.slice p.R p.rels.length p.rc) ?_
      refine tk 7 rfl (.int .i64 ((k+1:Nat):Int)) ?_
      refine tk 8 rfl (.pointer (some ⟨g2,og2+(k+1) * 8,none⟩)) ?_ (hv:=fun w' hS'=>by (have z0:=HEG.out); (have z3:¬ ((k:Int)+1<0):=(by omega)); go_simp)
      refine tk 9 rfl (.pointer (some ⟨g2,og2+(k+1) * 8,none⟩)) ?_
      refine tk 10 rfl (.agg #[v.v.a,v.v.b,v.v.c,.slice v.A v.v.pre.length v.c,.slice v.B v.v.build.length v.d]) ?_ (hv:=fun w' hS'=>by (have z0:=(hS'.cell (p:=⟨g2,og2+(k+1) * 8,none⟩) hg).trans f0); (have z1:=(hS'.cell (p:=⟨g2,og2+(k+1) * 8+1,none⟩) hg).trans f1); (have z2:=(hS'.cell (p:=⟨g2,og2+(k+1) * 8+2,none⟩) hg).trans f2); (have z3:=(hS'.cell (p:=⟨g2,og2+(k+1) * 8+3,none⟩) hg).trans f3); (have z4:=(hS'.cell (p:=⟨g2,og2+(k+1) * 8+4,none⟩) hg).trans f4); go_simp)
      obtain ⟨z,hz⟩:∃ z,fullV u.v v.v=z:=⟨_,rfl⟩
      rw [hz] at HNOK HBAD
      refine cl 11 rfl fun K hK=>?_
      go_simp
      refine (Prec.refFull_all u.v v.v u.A u.B v.A v.B u.c u.d v.c v.d _ (HU.out.pre.kept H0.out) (HU.out.build.kept H0.out) (HV.out.pre.kept H0.out) (HV.out.build.kept H0.out) HU.out.fit.pre HU.out.fit.build HV.out.fit.pre HV.out.fit.build HU.out.fit.pres HU.out.fit.builds HV.out.fit.pres HV.out.fit.builds).mono ?_
      rw [hz]
      rintro e W5 ⟨rfl,hb5⟩
      have HH5:Hid (Below wr.heap.size wr W5):=H0.out.trans (hb5.mono H0.out.size)
      refine hK.out _ _ HH5.out (fun hHeld2=>?_)
      clear hK K hb5 hz hHeld
      try simp only [Act.put,p1,p2,p3]
      by_cases hz0:z≤0
      ·have hzb:¬ 0<z:=by omega
       refine tk 12 rfl (.bool false) ?_
       refine wpAnyH_done (by kernel_rfl) ?_ _
       have HN2:=Lib.hid (HNOK.out hz0)
       have HW5:=Lib.hid (HWR.out.trans (HH5.out.mono HWR.out.size))
       clear d0 d1 d2 d3 d4 f0 f1 f2 f3 f4 hHeld2
       go_wp2
       exact ⟨⟨k+1,Lib.hid (.inl (by omega)),by go_num,HN2.out⟩,by simp only [intOf]; omega⟩
      ·have hzb:0<z:=by omega
       refine tk 12 rfl (.bool true) ?_
       refine wpAnyH_done (by kernel_rfl) ?_ _
       have HF:=Lib.hid (HBAD.out hzb)
       have HE:=Lib.hid (HBR.out.trans (HH5.out.mono HBR.out.size))
       clear d0 d1 d2 d3 d4 f0 f1 f2 f3 f4 hHeld2
       go_wp2
       go_ret
       exact ⟨by rw [HF.out]; rfl,HE.out⟩
     ·have HRB:Hid (relsB (p.rels.map MRel.p)=true):=rels_yes (fun j hj=>HDR.out j (by have:=hk.out; omega))
      have HN3:=Lib.hid (HNEXT.out HRB.out)
      have i0:=HIR.out.at_ 0 _ rfl
      go_wp2
      exact ⟨⟨0+1,by omega,by go_num,HN3.out.1,HN3.out.2,HIR.out,HBR.out⟩,by simp [intOf]; omega⟩
   | succ i =>
    obtain ⟨b2,o2,e2,_,_,d0,_⟩:=hrow.cells (show i<n by omega)
    injection e2 with e3
    injection e3 with e3 e4
    subst e3
    subst e4
    have HBADN:Hid ((x.getD (i+1) default).name<(x.getD i default).name→plainB (x.map MPack.p)=false):=fun h=>plain_name (by rw [HL.out]; exact hlt) h
    have HGN:Hid (¬ (x.getD (i+1) default).name<(x.getD i default).name→∀ j,j+1<i+1+1→¬ (x.getD (j+1) default).name<(x.getD j default).name):=fun h j hj=>by
     rcases Nat.lt_or_ge j i with h1 | h1
     ·exact HDN.out j (by omega)
     ·obtain rfl:j=i:=by omega
      exact h
    obtain ⟨p,hp⟩:∃ p,x.getD (i+1) default=p:=⟨_,rfl⟩
    obtain ⟨q,hq⟩:∃ q,x.getD i default=q:=⟨_,rfl⟩
    rw [hp] at c0 c1 HPK0 HPB HNX HBADN HGN
    rw [hq] at d0 HBADN HGN
    clear hp hq hrow
    have hin2:¬ n≤i:=by omega
    have hib2:=less_text p.name q.name
    have H0:Hid (Below wi.heap.size wi wi.drew):=(Below.refl _ _).drew
    by_cases hlq:p.name<q.name
    ·have HF:=Lib.hid (HBADN.out hlq)
     have hless:Op.bytesLess (Ident.mk p.name).toList (Ident.mk q.name).toList=true:=by rw [hib2]; exact decide_eq_true hlq
     clear hlq hib2
     go_wp2
     refine wp_region_held_drew (S:=fun w'=>Below wi.heap.size wi w') (by kernel_rfl) H0.out (fun hHeld=>?_)
     generalize wi.drew=w2 at H0 hHeld ⊢
     refine tk 0 rfl (.int .i64 ((i+1:Nat):Int)) ?_
     refine tk 1 rfl (.bool true) ?_
     refine tk 2 rfl (.bool true) ?_
     refine tk 3 rfl (.pointer (some ⟨ib,0,none⟩)) ?_
     refine tk 4 rfl (.slice (some ⟨b,o,none⟩) n c) ?_ (hv:=fun w' hS'=>by (have z0:=(hS'.cell (p:=⟨ib,0,none⟩) hib).trans i0); go_simp)
     refine tk 5 rfl (.int .i64 ((i+1:Nat):Int)) ?_
     refine tk 6 rfl (.pointer (some ⟨b,o+(i+1) * 2,none⟩)) ?_ (hv:=fun w' hS'=>by (have z0:¬ ((i:Int)+1<0):=(by omega)); go_simp)
     refine tk 7 rfl (.pointer (some ⟨b,o+(i+1) * 2,none⟩)) ?_
     refine tk 8 rfl (.string (Ident.mk p.name)) ?_ (hv:=fun w' hS'=>by (have z0:=(hS'.cell (p:=⟨b,o+(i+1) * 2,none⟩) hb).trans c0); go_simp)
     refine tk 9 rfl (.pointer (some ⟨ib,0,none⟩)) ?_
     refine tk 10 rfl (.slice (some ⟨b,o,none⟩) n c) ?_ (hv:=fun w' hS'=>by (have z0:=(hS'.cell (p:=⟨ib,0,none⟩) hib).trans i0); go_simp)
     refine tk 11 rfl (.int .i64 ((i+1:Nat):Int)) ?_
     refine tk 12 rfl (.int .i64 i) ?_ (hv:=fun w' hS'=>by (have z0:(((i+1:Nat):Int) - 1)=(i:Int):=(by omega)); (have z2:IntKind.i64.wrap (i:Int)=(i:Int):=(by rw [IntKind.wrap_i64] <;> omega)); go_simp)
     refine tk 13 rfl (.pointer (some ⟨b,o+i * 2,none⟩)) ?_
     refine tk 14 rfl (.pointer (some ⟨b,o+i * 2,none⟩)) ?_
     refine tk 15 rfl (.string (Ident.mk q.name)) ?_ (hv:=fun w' hS'=>by (have z0:=(hS'.cell (p:=⟨b,o+i * 2,none⟩) hb).trans d0); go_simp)
     refine tk 16 rfl (.bool true) ?_ (hv:=fun w' hS'=>by (have z0:=hless); go_simp)
     refine tk 17 rfl (.bool true) ?_
     refine wpAnyH_done (by kernel_rfl) ?_ _
     have HE:=Lib.hid (HB.out.trans (H0.out.mono HB.out.size))
     clear hHeld c0 c1 d0 i0
     go_wp2
     go_ret
     exact ⟨by rw [HF.out]; rfl,HE.out⟩
    ·have HG:=Lib.hid (HGN.out hlq)
     have HNEXT:Hid (relsB (p.rels.map MRel.p)=true→(∀ j,j+1<i+1+1→¬ (x.getD (j+1) default).name<(x.getD j default).name)∧(∀ j,j<i+1+1→relsB ((x.getD j default).rels.map MRel.p)=true)):=fun h=>⟨HG.out,HNX.out h⟩
     have hless:Op.bytesLess (Ident.mk p.name).toList (Ident.mk q.name).toList=false:=by rw [hib2]; exact decide_eq_false hlq
     clear hlq hib2
     go_wp2
     refine wp_region_held_drew (S:=fun w'=>Below wi.heap.size wi w') (by kernel_rfl) H0.out (fun hHeld=>?_)
     generalize wi.drew=w2 at H0 hHeld ⊢
     refine tk 0 rfl (.int .i64 ((i+1:Nat):Int)) ?_
     refine tk 1 rfl (.bool true) ?_
     refine tk 2 rfl (.bool true) ?_
     refine tk 3 rfl (.pointer (some ⟨ib,0,none⟩)) ?_
     refine tk 4 rfl (.slice (some ⟨b,o,none⟩) n c) ?_ (hv:=fun w' hS'=>by (have z0:=(hS'.cell (p:=⟨ib,0,none⟩) hib).trans i0); go_simp)
     refine tk 5 rfl (.int .i64 ((i+1:Nat):Int)) ?_
     refine tk 6 rfl (.pointer (some ⟨b,o+(i+1) * 2,none⟩)) ?_ (hv:=fun w' hS'=>by (have z0:¬ ((i:Int)+1<0):=(by omega)); go_simp)
     refine tk 7 rfl (.pointer (some ⟨b,o+(i+1) * 2,none⟩)) ?_
     refine tk 8 rfl (.string (Ident.mk p.name)) ?_ (hv:=fun w' hS'=>by (have z0:=(hS'.cell (p:=⟨b,o+(i+1) * 2,none⟩) hb).trans c0); go_simp)
     refine tk 9 rfl (.pointer (some ⟨ib,0,none⟩)) ?_
     refine tk 10 rfl (.slice (some ⟨b,o,none⟩) n c) ?_ (hv:=fun w' hS'=>by (have z0:=(hS'.cell (p:=⟨ib,0,none⟩) hib).trans i0); go_simp)
     refine tk 11 rfl (.int .i64 ((i+1:Nat):Int)) ?_
     refine tk 12 rfl (.int .i64 i) ?_ (hv:=fun w' hS'=>by (have z0:(((i+1:Nat):Int) - 1)=(i:Int):=(by omega)); (have z2:IntKind.i64.wrap (i:Int)=(i:Int):=(by rw [IntKind.wrap_i64] <;> omega)); go_simp)
     refine tk 13 rfl (.pointer (some ⟨b,o+i * 2,none⟩)) ?_
     refine tk 14 rfl (.pointer (some ⟨b,o+i * 2,none⟩)) ?_
     refine tk 15 rfl (.string (Ident.mk q.name)) ?_ (hv:=fun w' hS'=>by (have z0:=(hS'.cell (p:=⟨b,o+i * 2,none⟩) hb).trans d0); go_simp)
     refine tk 16 rfl (.bool false) ?_ (hv:=fun w' hS'=>by (have z0:=hless); go_simp)
     refine tk 17 rfl (.bool false) ?_
     refine wpAnyH_done (by kernel_rfl) ?_ _
     have HB2:=Lib.hid (HB.out.trans (H0.out.mono HB.out.size))
     have HI2:=Lib.hid (HI.out.kept H0.out HI.out.lt)
     have HPK:Hid (PackOk w2 (LtB B) p):=HPK0.out.keep (KeepS.of_below H0.out)
     replace c1:=(H0.out.cell (p:=⟨b,o+(i+1) * 2+1,none⟩) hb).trans c1
     replace i0:=(H0.out.cell (p:=⟨ib,0,none⟩) hib).trans i0
     clear hHeld c0 d0 hless
     have HRCL:Hid (p.rels.length≤maxLen):=Nat.le_trans HPK.out.rc.1 HPK.out.rc.2
     have hrlen:p.rels.length≤9223372036854775807:=HRCL.out
     go_wp2
     go_loopw [5] (fun y W=>∃ k:Nat,Hid (k+1≤p.rels.length∨k=0)∧y=.int .i64 ((k+1:Nat):Int)∧Hid (∀ j,j<k→fullV (p.rels.getD j default).ver.v (p.rels.getD (j+1) default).ver.v≤0)∧Hid (Below w2.heap.size w2 W)) (fun y _=>p.rels.length+1 - (intOf y).toNat)
     case atStart=>exact ⟨0,Lib.hid (.inr rfl),by go_num,(fun j hj=>by omega),Below.refl _ _⟩
     case round =>
      rename World=>wr
      obtain ⟨k,hk,rfl,HDR,HWR⟩:=hrel
      have HBR:=Lib.hid (HB2.out.trans (HWR.out.mono HB2.out.size))
      have HIR:=Lib.hid (HI2.out.kept HWR.out HI2.out.lt)
      by_cases hkl:k+1<p.rels.length
      ·have hrr:=HPK.out.rels.keep (KeepS.of_below (S:=LtB B) HWR.out)
       have HU0:Hid (RelOk wr (LtB B) (p.rels.getD k default)):=hrr.ok _ (getD_mem (by omega))
       have HV0:Hid (RelOk wr (LtB B) (p.rels.getD (k+1) default)):=hrr.ok _ (getD_mem hkl)
       obtain ⟨g,og,eg,_,hg,d0,d1,d2,d3,d4,_,_,_⟩:=hrr.cells (show k<p.rels.length by omega)
       obtain ⟨g2,og2,eg2,_,_,f0,f1,f2,f3,f4,_,_,_⟩:=hrr.cells hkl
       have e3:=eg2.symm.trans eg
       injection e3 with e3
       injection e3 with e3 e4
       subst e3
       subst e4
       have HEG:=Lib.hid eg
       clear eg eg2 hrr
       have HNOK:Hid (fullV (p.rels.getD k default).ver.v (p.rels.getD (k+1) default).ver.v≤0→∀ j,j<k+1→fullV (p.rels.getD j default).ver.v (p.rels.getD (j+1) default).ver.v≤0):=fun h j hj=>by
        rcases Nat.lt_or_ge j k with h1 | h1
        ·exact HDR.out j h1
        ·obtain rfl:j=k:=by omega
         exact h
       have HBAD:Hid (¬ fullV (p.rels.getD k default).ver.v (p.rels.getD (k+1) default).ver.v≤0→plainB (x.map MPack.p)=false):=fun h=>HPB.out (rels_no hkl h)
       obtain ⟨u,hu⟩:∃ u,(p.rels.getD k default).ver=u:=⟨_,rfl⟩
       obtain ⟨v,hv⟩:∃ v,(p.rels.getD (k+1) default).ver=v:=⟨_,rfl⟩
       have HU:Hid (VerOk wr (LtB B) u):=by unfold Hid; rw [← hu]; exact HU0.out.ver
       have HV:Hid (VerOk wr (LtB B) v):=by unfold Hid; rw [← hv]; exact HV0.out.ver
       rw [hu] at d0 d1 d2 d3 d4 HNOK HBAD
       rw [hv] at f0 f1 f2 f3 f4 HNOK HBAD
       clear hu hv HU0 HV0
       have hkn:¬ p.rels.length≤k:=by omega
       have hkn2:¬ p.rels.length≤k+1:=by omega
       have H0:Hid (Below wr.heap.size wr wr.drew):=(Below.refl _ _).drew
       go_wp2
       refine wp_region_held_drew (S:=fun w'=>Below wr.heap.size wr w') (by kernel_rfl) H0.out (fun hHeld=>?_)
       generalize wr.drew=wd at H0 hHeld ⊢
       refine tk 0 rfl (.slice p.R p.rels.length p.rc) ?_
       refine tk 1 rfl (.int .i64 ((k+1:Nat):Int)) ?_
       refine tk 2 rfl (.int .i64 k) ?_ (hv:=fun w' hS'=>by (have z0:(((k+1:Nat):Int) - 1)=(k:Int):=(by omega)); (have z2:IntKind.i64.wrap (k:Int)=(k:Int):=(by rw [IntKind.wrap_i64] <;> omega)); go_simp)
       refine tk 3 rfl (.pointer (some ⟨g2,og2+k * 8,none⟩)) ?_ (hv:=fun w' hS'=>by (have z0:=HEG.out); go_simp)
       refine tk 4 rfl (.pointer (some ⟨g2,og2+k * 8,none⟩)) ?_
       refine tk 5 rfl (.agg #[u.v.a,u.v.b,u.v.c,.slice u.A u.v.pre.length u.c,.slice u.B u.v.build.length u.d]) ?_ (hv:=fun w' hS'=>by (have z0:=(hS'.cell (p:=⟨g2,og2+k * 8,none⟩) hg).trans d0); (have z1:=(hS'.cell (p:=⟨g2,og2+k * 8+1,none⟩) hg).trans d1); (have z2:=(hS'.cell (p:=⟨g2,og2+k * 8+2,none⟩) hg).trans d2); (have z3:=(hS'.cell (p:=⟨g2,og2+k * 8+3,none⟩) hg).trans d3); (have z4:=(hS'.cell (p:=⟨g2,og2+k * 8+4,none⟩) hg).trans d4); go_simp)
       refine tk 6 rfl (.slice p.R p.rels.length p.rc) ?_
       refine tk 7 rfl (.int .i64 ((k+1:Nat):Int)) ?_
       refine tk 8 rfl (.pointer (some ⟨g2,og2+(k+1) * 8,none⟩)) ?_ (hv:=fun w' hS'=>by (have z0:=HEG.out); (have z3:¬ ((k:Int)+1<0):=(by omega)); go_simp)
       refine tk 9 rfl (.pointer (some ⟨g2,og2+(k+1) * 8,none⟩)) ?_
       refine tk 10 rfl (.agg #[v.v.a,v.v.b,v.v.c,.slice v.A v.v.pre.length v.c,.slice v.B v.v.build.length v.d]) ?_ (hv:=fun w' hS'=>by (have z0:=(hS'.cell (p:=⟨g2,og2+(k+1) * 8,none⟩) hg).trans f0); (have z1:=(hS'.cell (p:=⟨g2,og2+(k+1) * 8+1,none⟩) hg).trans f1); (have z2:=(hS'.cell (p:=⟨g2,og2+(k+1) * 8+2,none⟩) hg).trans f2); (have z3:=(hS'.cell (p:=⟨g2,og2+(k+1) * 8+3,none⟩) hg).trans f3); (have z4:=(hS'.cell (p:=⟨g2,og2+(k+1) * 8+4,none⟩) hg).trans f4); go_simp)
       obtain ⟨z,hz⟩:∃ z,fullV u.v v.v=z:=⟨_,rfl⟩
       rw [hz] at HNOK HBAD
       refine cl 11 rfl fun K hK=>?_
       go_simp
       refine (Prec.refFull_all u.v v.v u.A u.B v.A v.B u.c u.d v.c v.d _ (HU.out.pre.kept H0.out) (HU.out.build.kept H0.out) (HV.out.pre.kept H0.out) (HV.out.build.kept H0.out) HU.out.fit.pre HU.out.fit.build HV.out.fit.pre HV.out.fit.build HU.out.fit.pres HU.out.fit.builds HV.out.fit.pres HV.out.fit.builds).mono ?_
       rw [hz]
       rintro e W5 ⟨rfl,hb5⟩
       have HH5:Hid (Below wr.heap.size wr W5):=H0.out.trans (hb5.mono H0.out.size)
       refine hK.out _ _ HH5.out (fun hHeld2=>?_)
       clear hK K hb5 hz hHeld
       try simp only [Act.put,p1,p2,p3]
       by_cases hz0:z≤0
       ·have hzb:¬ 0<z:=by omega
        refine tk 12 rfl (.bool false) ?_
        refine wpAnyH_done (by kernel_rfl) ?_ _
        have HN2:=Lib.hid (HNOK.out hz0)
        have HW5:=Lib.hid (HWR.out.trans (HH5.out.mono HWR.out.size))
        clear d0 d1 d2 d3 d4 f0 f1 f2 f3 f4 hHeld2
        go_wp2
        exact ⟨⟨k+1,Lib.hid (.inl (by omega)),by go_num,HN2.out⟩,by simp only [intOf]; omega⟩
       ·have hzb:0<z:=by omega
        refine tk 12 rfl (.bool true) ?_
        refine wpAnyH_done (by kernel_rfl) ?_ _
        have HF:=Lib.hid (HBAD.out hzb)
        have HE:=Lib.hid (HBR.out.trans (HH5.out.mono HBR.out.size))
        clear d0 d1 d2 d3 d4 f0 f1 f2 f3 f4 hHeld2
        go_wp2
        go_ret
        exact ⟨by rw [HF.out]; rfl,HE.out⟩
      ·have HRB:Hid (relsB (p.rels.map MRel.p)=true):=rels_yes (fun j hj=>HDR.out j (by have:=hk.out; omega))
       have HN3:=Lib.hid (HNEXT.out HRB.out)
       have i0:=HIR.out.at_ 0 _ rfl
       go_wp2
       exact ⟨⟨i+1+1,by omega,by go_num,HN3.out.1,HN3.out.2,HIR.out,HBR.out⟩,by simp [intOf]; omega⟩
  ·obtain rfl:i=n:=by omega
   have HF:Hid (plainB (x.map MPack.p)=true):=plain_yes (fun j hj=>HDN.out j (by rw [HL.out] at hj; exact hj)) (fun j hj=>HDR0.out j (by rw [HL.out] at hj; exact hj))
   go_wp2
   go_ret
   exact ⟨by rw [HF.out]; rfl,HB.out⟩
end Go.Proofs.YtnpjklaaokiikaaGreatDoor.Model
namespace Go.Proofs.YtnpjklaaokiikaaGreatDoor.Model
open Go.RowKit Num Ident Semver Fr
open Range (Rng noRng RV KeepS LtB LenOk goodR wt)
open KR (KRow AtV)
open Name (isName)
open Nrm (hasR inV)

def banK (pn:List UInt8) (v:Ver) (d:PDep):Int:=if depE d≠0 then depE d else if d.name=pn∧hasR d.r v=true then 18 else 0
theorem banK_dep {pn:List UInt8} {v:Ver} {d:PDep} (h:depE d≠0):banK pn v d=depE d:=by unfold banK; rw [if_pos h]
theorem banK_yes {pn:List UInt8} {v:Ver} {d:PDep} (h:depE d=0) (g:d.name=pn) (q:hasR d.r v=true):banK pn v d=18:=by unfold banK; rw [if_neg (fun k=>k h),if_pos ⟨g,q⟩]
theorem banK_no {pn:List UInt8} {v:Ver} {d:PDep} (h:depE d=0) (g:¬ (d.name=pn∧hasR d.r v=true)):banK pn v d=0:=by unfold banK; rw [if_neg (fun k=>k h),if_neg g]
theorem few_wt {d:MDep} (h:FewP d) (hs:Nrm.Slim d.r):wt d.r≤12:=Nat.le_trans (Nrm.wt_tot d.r) (h.2 hs)
theorem ban1_any (d:MDep) (pn:List UInt8) (r:MRel) (nb rb:Nat) (B:Nat) (w:World) (hd:DepOk w (LtB B) d) (hfew:FewP d) (hv:VerOk w (LtB B) r.ver) (hn:AtV w nb [.string (Ident.mk pn)]) (hr:AtV w rb [.int .u64 r.ver.v.a,.int .u64 r.ver.v.b,.int .u64 r.ver.v.c,.slice r.ver.A r.ver.v.pre.length r.ver.c,.slice r.ver.B r.ver.v.build.length r.ver.d,.bool r.yanked,.slice r.N r.needs.length r.nc,.slice r.B r.bans.length r.bc]) (hB:B≤w.heap.size) :
  Calls Tryz.prog 150 #[d.agg,.pointer (some ⟨nb,0,none⟩),.pointer (some ⟨rb,0,none⟩)] w fun e w'=>e=.returned (.int .i64 (banK pn r.ver.v d.p))∧Below w.heap.size w w':=by
 have HF:=Lib.hid hfew
 have HE1:=Lib.hid (fun h=>banK_dep (pn:=pn) (v:=r.ver.v) (d:=d.p) h)
 have HE2:=Lib.hid (fun h g q=>banK_yes (pn:=pn) (v:=r.ver.v) (d:=d.p) h g q)
 have HE3:=Lib.hid (fun h g=>banK_no (pn:=pn) (v:=r.ver.v) (d:=d.p) h g)
 obtain ⟨W0,hW,hav,hb0⟩:∃ W,W=w.alloc (.cells #[.string (Ident.mk d.name),d.x.kind,d.x.v.a,d.x.v.b,d.x.v.c,.slice d.x.A d.x.v.pre.length d.x.c,.slice d.x.B d.x.v.build.length d.x.d,.slice d.x.L d.x.n d.x.e] 57)∧AtV W w.heap.size [.string (Ident.mk d.name),.int .i64 d.x.kind,.int .u64 d.x.v.a,.int .u64 d.x.v.b,.int .u64 d.x.v.c,.slice d.x.A d.x.v.pre.length d.x.c,.slice d.x.B d.x.v.build.length d.x.d,.slice d.x.L d.x.n d.x.e]∧Below w.heap.size w W:=⟨_,rfl,AtV.new w _ _,(Below.refl _ _).alloc (Nat.le_refl _) _⟩
 have HAV:=Lib.hid hav
 have HB0:=Lib.hid hb0
 have HD0:=Lib.hid (hd.keep (KeepS.of_below (S:=LtB B) hb0))
 have HV0:=Lib.hid (hv.keep (KeepS.of_below (S:=LtB B) hb0))
 have HN0:=Lib.hid (hn.kept hb0 hn.lt)
 have HR0:=Lib.hid (hr.kept hb0 hr.lt)
 have HLB:Hid (B≤W0.heap.size):=Nat.le_trans hB hb0.size
 clear hav hb0 hd hv hn hr hfew
 obtain ⟨bd,hbd⟩:∃ bd,w.heap.size=bd:=⟨_,rfl⟩
 unfold MDep.agg
 go_enter Tryz.func150,Tryz.ntmps150
 go_upto_region 1 with (fail)
 rw [← hW]
 clear hW
 rw [hbd] at HAV
 clear hbd hB
 have c0:=HAV.out.at_ 0 _ rfl
 have c1:=HAV.out.at_ 1 _ rfl
 have c2:=HAV.out.at_ 2 _ rfl
 have c3:=HAV.out.at_ 3 _ rfl
 have c4:=HAV.out.at_ 4 _ rfl
 have c5:=HAV.out.at_ 5 _ rfl
 have c6:=HAV.out.at_ 6 _ rfl
 have c7:=HAV.out.at_ 7 _ rfl
 go_wp2_with fail
 refine (depFault_any d B _ HD0.out HLB.out).mono ?_
 rintro e W1 ⟨rfl,hb⟩
 have HB1:=Lib.hid (HB0.out.trans (hb.mono HB0.out.size))
 have HAV1:=Lib.hid (HAV.out.kept hb HAV.out.lt)
 have HD1:=Lib.hid (HD0.out.keep (KeepS.of_below (S:=LtB B) hb))
 have HV1:=Lib.hid (HV0.out.keep (KeepS.of_below (S:=LtB B) hb))
 have HN1:=Lib.hid (HN0.out.kept hb HN0.out.lt)
 have HR1:=Lib.hid (HR0.out.kept hb HR0.out.lt)
 have HL1:Hid (B≤W1.heap.size):=Nat.le_trans HLB.out hb.size
 clear hb c0 c1 c2 c3 c4 c5 c6 c7
 obtain ⟨q,hq⟩:∃ q,depE d.p=q:=⟨_,rfl⟩
 rw [hq] at HE1 HE2 HE3
 rw [hq]
 clear hq
 by_cases h0:q=0
 ·subst h0
  have c0:=HAV1.out.at_ 0 _ rfl
  have e0:=HN1.out.at_ 0 _ rfl
  by_cases hnq:d.name=pn
  ·have hbe:((Ident.mk d.name).toList == (Ident.mk pn).toList)=true:=by rw [hnq]; exact mk_eq _
   have HNQ:=Lib.hid hnq
   clear hnq
   have c1:=HAV1.out.at_ 1 _ rfl
   have c2:=HAV1.out.at_ 2 _ rfl
   have c3:=HAV1.out.at_ 3 _ rfl
   have c4:=HAV1.out.at_ 4 _ rfl
   have c5:=HAV1.out.at_ 5 _ rfl
   have c6:=HAV1.out.at_ 6 _ rfl
   have c7:=HAV1.out.at_ 7 _ rfl
   have f0:=HR1.out.at_ 0 _ rfl
   have f1:=HR1.out.at_ 1 _ rfl
   have f2:=HR1.out.at_ 2 _ rfl
   have f3:=HR1.out.at_ 3 _ rfl
   have f4:=HR1.out.at_ 4 _ rfl
   obtain ⟨hs,hhs⟩:∃ hs,hasR d.r r.ver.v=hs:=⟨_,rfl⟩
   have HHS:=Lib.hid hhs
   go_wp2_with fail
   refine (Nrm.has_norm d.r d.x B r.ver.v r.ver.A r.ver.c r.ver.B r.ver.d _ HD1.out.lies HL1.out HD1.out.len (fun _=>by have:=few_wt HF.out HD1.out.slim; omega) HV1.out.pre HV1.out.build ⟨HV1.out.fit.pre,HV1.out.fit.build,HV1.out.fit.pres,HV1.out.fit.builds⟩).mono ?_
   rw [hhs]
   clear hhs
   rintro e W2 ⟨rfl,hb⟩
   have HB2:=Lib.hid (HB1.out.trans (hb.mono HB1.out.size))
   clear hb c1 c2 c3 c4 c5 c6 c7 f0 f1 f2 f3 f4 c0 e0
   cases hs
   ·have HZ:=Lib.hid (HE3.out (by trivial) (fun g=>by have h:hasR d.r r.ver.v=true:=g.2; rw [HHS.out] at h; cases h))
    go_wp2
    go_ret
    exact ⟨by rw [HZ.out]; rfl,HB2.out⟩
   ·have HZ:=Lib.hid (HE2.out (by trivial) HNQ.out HHS.out)
    go_wp2
    go_ret
    exact ⟨by rw [HZ.out]; rfl,HB2.out⟩
  ·have hbe:((Ident.mk d.name).toList == (Ident.mk pn).toList)=false:=mk_ne hnq
   have HZ:=Lib.hid (HE3.out (by trivial) (fun g=>hnq g.1))
   clear hnq
   go_wp2
   go_ret
   exact ⟨by rw [HZ.out]; rfl,HB1.out⟩
 ·have hne:(q == 0)=false:=by simpa using h0
  have HZ:=Lib.hid (HE1.out h0)
  clear h0
  go_wp2
  go_ret
  exact ⟨by rw [HZ.out]; rfl,HB1.out⟩
def depsF (pn:List UInt8) (r:PRel):Option (Nat × Int):=firstG (fun j d=>toO (banE pn r.v r.needs.length j d)) 0 (r.needs ++ r.bans)
theorem firstG_shift {α β:Type} (f:Nat→α→Option β):∀ (l:List α) (m:Nat),firstG f m l=(firstG (fun k=>f (m+k)) 0 l).map fun p=>(m+p.1,p.2)
 | [],_=>rfl
 | x :: l,m=>by
  rw [firstG,firstG]
  show (match f m x with | some b=>some (m,b) | none=>firstG f (m+1) l)=Option.map _ (match f (m+0) x with | some b=>some (0,b) | none=>firstG (fun k=>f (m+k)) (0+1) l)
  rw [Nat.add_zero]
  cases f m x with
  | some b=>rfl
  | none =>
   show firstG f (m+1) l=Option.map _ (firstG (fun k=>f (m+k)) 1 l)
   rw [firstG_shift f l (m+1),firstG_shift (fun k=>f (m+k)) l 1,Option.map_map]
   have e:(fun k=>f (m+1+k))=(fun k=>f (m+(1+k))):=by funext k; rw [Nat.add_assoc]
   rw [e]
   congr 1
   funext p
   show (m+1+p.1,p.2)=(m+(1+p.1),p.2)
   rw [Nat.add_assoc]
theorem firstG_append {α β:Type} (f:Nat→α→Option β):∀ (a b:List α) (m:Nat),firstG f m (a ++ b)=(firstG f m a).or (firstG f (m+a.length) b)
 | [],b,m=>rfl
 | x :: a,b,m=>by
  rw [List.cons_append,firstG,firstG]
  cases f m x with
  | some y=>rfl
  | none =>
   show firstG f (m+1) (a ++ b)=_
   rw [firstG_append f a b (m+1),List.length_cons,Nat.add_assoc,Nat.add_comm 1 a.length]
theorem firstG_congr {α β:Type} [Inhabited α] {f g:Nat→α→Option β}:∀ (l:List α) (m:Nat),(∀ k,k<l.length→f (m+k) (l.getD k default)=g (m+k) (l.getD k default))→firstG f m l=firstG g m l
 | [],_,_=>rfl
 | x :: l,m,h=>by
  have h0:f m x=g m x:=h 0 (Nat.succ_pos _)
  rw [firstG,firstG,h0]
  cases g m x with
  | some y=>rfl
  | none=>exact firstG_congr l (m+1) fun k hk=>by have:=h (k+1) (by simpa using hk); rw [Nat.add_right_comm]; exact this
theorem firstE_some' {α:Type} (g:Nat→α→Int):∀ (l:List α) (m:Nat) (p:Nat × Int),firstG (fun k d=>toO (g k d)) m l=some p→p.2≠0∧p.1<m+l.length
 | [],_,_,h=>by cases h
 | x :: l,m,p,h=>by
  rw [firstG] at h
  by_cases h0:g m x=0
  ·have e:toO (g m x)=none:=toO_none.2 h0
   rw [e] at h
   have:=firstE_some' g l (m+1) p h
   exact ⟨this.1,by rw [List.length_cons]; omega⟩
  ·have e:toO (g m x)=some (g m x):=toO_some h0
   rw [e] at h
   injection h with h
   subst h
   exact ⟨h0,by rw [List.length_cons]; omega⟩
theorem firstE_some {α:Type} {g:Nat→α→Int} {l:List α} {p:Nat × Int} (h:firstG (fun k d=>toO (g k d)) 0 l=some p):p.2≠0∧p.1<l.length:=by
 have:=firstE_some' g l 0 p h
 rwa [Nat.zero_add] at this
theorem rootsF_ne {l:List PDep} {p:Nat × Int} (h:rootsF l=some p):p.2≠0:=(firstE_some (g:=fun _ d=>depE d) h).1
theorem depsF_eq (pn:List UInt8) (r:PRel) (hv:goodV r.v=true):depsF pn r=(rootsF r.needs).or ((firstG (fun _ d=>toO (banK pn r.v d)) 0 r.bans).map fun p=>(r.needs.length+p.1,p.2)):=by
 unfold depsF rootsF
 rw [firstG_append,Nat.zero_add]
 congr 1
 ·refine firstG_congr _ _ fun k hk=>?_
  rw [Nat.zero_add]
  have e:banE pn r.v r.needs.length k (r.needs.getD k default)=depE (r.needs.getD k default):=by
   unfold banE
   by_cases h:depE (r.needs.getD k default)≠0
   ·rw [if_pos h]
   ·rw [if_neg h,if_neg (fun g=>by have:=g.1; omega),Decidable.not_not.1 h]
  rw [e]
 ·rw [firstG_shift]
  congr 1
  refine firstG_congr _ _ fun k hk=>?_
  rw [Nat.zero_add]
  show toO (banE pn r.v r.needs.length (r.needs.length+k) (r.bans.getD k default))=_
  have e:banE pn r.v r.needs.length (r.needs.length+k) (r.bans.getD k default)=banK pn r.v (r.bans.getD k default):=by
   unfold banE banK
   by_cases h0:depE (r.bans.getD k default)≠0
   ·rw [if_pos h0,if_pos h0]
   ·rw [if_neg h0,if_neg h0]
    have h:=Decidable.not_not.1 h0
    have hg:goodR (r.bans.getD k default).r 0=true:=by
     unfold depE at h
     by_cases h1:isName (r.bans.getD k default).name=false
     ·rw [if_pos h1] at h; cases h
     ·rw [if_neg h1] at h
      by_cases h2:goodR (r.bans.getD k default).r 0=false
      ·rw [if_pos h2] at h; cases h
      ·rwa [Bool.not_eq_false] at h2
    rw [Nrm.hasR_good hg hv]
    by_cases h3:(r.bans.getD k default).name=pn∧inV (r.bans.getD k default).r r.v=true
    ·rw [if_pos ⟨Nat.le_add_right _ _,h3⟩,if_pos h3]
    ·rw [if_neg (fun g=>h3 g.2),if_neg h3]
  rw [e]
theorem depsFault_any (pn:List UInt8) (r:MRel) (B:Nat) (w:World) (hr:RelOk w (LtB B) r) (h1:FewD r.needs) (h2:FewD r.bans) (hg:goodV r.ver.v=true) (hB:B≤w.heap.size) :
  Calls Tryz.prog 96 #[.string (Ident.mk pn),r.agg] w fun e w'=>e=.returned (out2V (depsF pn r.p))∧Below w.heap.size w w':=by
 have HEQ:=Lib.hid (depsF_eq pn r.p hg)
 obtain ⟨W0,hW,hnv,hav,hb0⟩:∃ W,W=(w.alloc (.cells #[.string (Ident.mk pn)] 9)).alloc (.cells #[r.ver.v.a,r.ver.v.b,r.ver.v.c,.slice r.ver.A r.ver.v.pre.length r.ver.c,.slice r.ver.B r.ver.v.build.length r.ver.d,.bool r.yanked,.slice r.N r.needs.length r.nc,.slice r.B r.bans.length r.bc] 36)∧AtV W w.heap.size [.string (Ident.mk pn)]∧AtV W (w.heap.size+1) [.int .u64 r.ver.v.a,.int .u64 r.ver.v.b,.int .u64 r.ver.v.c,.slice r.ver.A r.ver.v.pre.length r.ver.c,.slice r.ver.B r.ver.v.build.length r.ver.d,.bool r.yanked,.slice r.N r.needs.length r.nc,.slice r.B r.bans.length r.bc]∧Below w.heap.size w W :=
  ⟨_,rfl,(AtV.new w _ _).kept ((Below.refl _ _).alloc (Nat.le_refl _) _) (by simp),(by have h:=AtV.new (w.alloc (.cells #[.string (Ident.mk pn)] 9)) 36 [.int .u64 r.ver.v.a,.int .u64 r.ver.v.b,.int .u64 r.ver.v.c,.slice r.ver.A r.ver.v.pre.length r.ver.c,.slice r.ver.B r.ver.v.build.length r.ver.d,.bool r.yanked,.slice r.N r.needs.length r.nc,.slice r.B r.bans.length r.bc]; rwa [size_alloc] at h),((Below.refl _ _).alloc (Nat.le_refl _) _).alloc (by simp) _⟩
 have HNV:=Lib.hid hnv
 have HAV:=Lib.hid hav
 have HB0:=Lib.hid hb0
 have HR0:=Lib.hid (hr.keep (KeepS.of_below (S:=LtB B) hb0))
 have HF:=Lib.hid h2
 have HF1:=Lib.hid h1.1
 have HL0:Hid (B≤W0.heap.size):=Nat.le_trans hB hb0.size
 clear hnv hav hb0 hr h1 h2 hg
 obtain ⟨nb,hnb⟩:∃ nb,w.heap.size=nb:=⟨_,rfl⟩
 rw [hnb] at HAV HNV
 unfold MRel.agg
 go_enter Tryz.func96,Tryz.ntmps96
 go_upto_region 1 with (fail)
 rw [← hW]
 try rw [hnb]
 clear hW hnb hB
 have c6:=HAV.out.at_ 6 _ rfl
 go_wp2_with fail
 refine (roots_any r.N r.needs.length r.nc r.needs B _ HR0.out.needs HL0.out (by have:=HR0.out.nc; exact Nat.le_trans this.1 this.2)).mono ?_
 rintro e W1 ⟨rfl,hb⟩
 have HB1:=Lib.hid (HB0.out.trans (hb.mono HB0.out.size))
 have HAV1:=Lib.hid (HAV.out.kept hb HAV.out.lt)
 have HNV1:=Lib.hid (HNV.out.kept hb HNV.out.lt)
 have HR1:=Lib.hid (HR0.out.keep (KeepS.of_below (S:=LtB B) hb))
 have HL1:Hid (B≤W1.heap.size):=Nat.le_trans HL0.out hb.size
 clear hb c6
 have hrp:r.p.needs=r.needs.map MDep.p:=rfl
 rw [← hrp]
 obtain ⟨q,hq⟩:∃ q,rootsF r.p.needs=q:=⟨_,rfl⟩
 rw [hq] at HEQ ⊢
 have HQ:=Lib.hid hq
 clear hq hrp
 cases q with
 | some p =>
  have hpe:p.2≠0:=rootsF_ne HQ.out
  have HZ:Hid (depsF pn r.p=some p):=HEQ.out
  obtain ⟨k,e⟩:=p
  have hne:(e == 0)=false:=by simpa using hpe
  clear hpe
  unfold out2V out2
  go_wp2
  go_ret2
  exact ⟨by rw [HZ.out]; rfl,HB1.out⟩
 | none =>
  have HZ:Hid (depsF pn r.p=((firstG (fun _ d=>toO (banK pn r.ver.v d)) 0 (r.bans.map MDep.p)).map fun p=>(r.needs.length+p.1,p.2))):=by
   have:=HEQ.out
   rw [Option.none_or] at this
   have e:r.p.needs.length=r.needs.length:=List.length_map _
   rw [e] at this
   exact this
  have HP:Hid (∀ e w',FirstPost r.bans.length (fun k=>banK pn r.ver.v (r.bans.getD k default).p) (fun _ W=>Below W1.heap.size W1 W) (fun _ W=>Below W1.heap.size W1 W) e w'→e=.returned (out2V (firstG (fun _ d=>toO (banK pn r.ver.v d)) 0 (r.bans.map MDep.p)))∧Below W1.heap.size W1 w'):=fun e w' hp=>by
   have hq:=first_out (r.bans.map MDep.p) _ _ _ (by rw [List.length_map]; exact hp) (fun _ d=>banK pn r.ver.v d) (fun k hk=>by rw [List.length_map] at hk; rw [map_at MDep.p r.bans hk])
   exact ⟨hq.1,by rcases hq.2 with ⟨k,_,hb,_⟩ | ⟨hb,_⟩ <;> exact hb⟩
  have hfst:Calls Tryz.prog 119 #[.slice r.B r.bans.length r.bc,.func (.func 150) #[] #[.pointer (some ⟨nb,0,none⟩),.pointer (some ⟨nb+1,0,none⟩)]] W1 _:=firstDep_any 150 #[.pointer (some ⟨nb,0,none⟩),.pointer (some ⟨nb+1,0,none⟩)] (enters_of Tryz.func150 (by kernel_rfl) rfl) r.B r.bans.length r.bc r.bans (fun k=>banK pn r.ver.v (r.bans.getD k default).p) (fun _ W=>Below W1.heap.size W1 W) (fun _ W=>Below W1.heap.size W1 W) (LtB B) W1 (by have:=HR1.out.bc; exact Nat.le_trans this.1 this.2)
   (fun k W _ hb=>HR1.out.bans.keep (KeepS.of_below hb))
   (fun k W hk hb=>(ban1_any (r.bans.getD k default) pn r nb (nb+1) B W ((HR1.out.bans.keep (KeepS.of_below hb)).ok _ (HR1.out.bans.row.mem hk)) (HF.out.2 _ (HR1.out.bans.row.mem hk)) (HR1.out.ver.keep (KeepS.of_below hb)) (HNV1.out.kept hb HNV1.out.lt) (HAV1.out.kept hb HAV1.out.lt) (Nat.le_trans HL1.out hb.size)).mono fun e w' ⟨he,hb'⟩=>⟨he,fun _=>hb.trans (hb'.mono hb.size),fun _=>hb.trans (hb'.mono hb.size)⟩) (Below.refl _ _)
  have c7:=HAV1.out.at_ 7 _ rfl
  have d0:W1.cell? ⟨nb+1,6,none⟩=some (.slice r.N r.needs.length r.nc):=HAV1.out.at_ 6 _ rfl
  unfold out2V out2
  go_wp2_with fail
  refine hfst.mono ?_
  intro e W2 hp
  obtain ⟨he,hb⟩:=HP.out e W2 hp
  subst he
  clear hp
  have HB2:=Lib.hid (HB1.out.trans (hb.mono HB1.out.size))
  have HAV2:=Lib.hid (HAV1.out.kept hb HAV1.out.lt)
  clear hb c7 d0
  obtain ⟨q,hq⟩:∃ q,firstG (fun _ d=>toO (banK pn r.ver.v d)) 0 (r.bans.map MDep.p)=q:=⟨_,rfl⟩
  rw [hq] at HZ ⊢
  have HQ2:=Lib.hid hq
  clear hq
  cases q with
  | none =>
   unfold out2V out2
   go_wp2
   go_ret2
   exact ⟨by rw [HZ.out]; rfl,HB2.out⟩
  | some p =>
   have hpe:p.2≠0∧p.1<(r.bans.map MDep.p).length:=firstE_some HQ2.out
   obtain ⟨k,e⟩:=p
   have hne:(e == 0)=false:=by simpa using hpe.1
   have hk:k<r.bans.length:=by have:=hpe.2; rwa [List.length_map] at this
   clear hpe
   have c6:=HAV2.out.at_ 6 _ rfl
   have hl1:r.needs.length≤9223372036854775807:=by have:=HR1.out.nc; unfold maxLen at this; omega
   have HX:Hid (r.needs.length+r.bans.length≤100):=by have a:=HF1.out; have b:=HF.out.1; unfold Hid; omega
   have hx2:(k:Int)+(r.needs.length:Int)≤100:=by have:=HX.out; omega
   unfold out2V out2
   go_wp2
   go_ret2
   refine ⟨?_,HB2.out⟩
   rw [HZ.out]
   show Ending.returned (.tuple #[.int .i64 ((k:Int)+(r.needs.length:Int)),.int .i64 e])=.returned (.tuple #[.int .i64 ((r.needs.length+k:Nat):Int),.int .i64 e])
   rw [Int.natCast_add,Int.add_comm]
end Go.Proofs.YtnpjklaaokiikaaGreatDoor.Model
