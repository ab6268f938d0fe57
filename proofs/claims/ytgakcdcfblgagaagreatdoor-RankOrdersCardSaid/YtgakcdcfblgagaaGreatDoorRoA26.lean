/-
  What the theorem of the last text needs of these: MoRefCheck. Conditions: as each theorem states.
-/
import Derived.Test.YtgakcdcfblgagaaGreatDoorRoA1
import Derived.Test.YtgakcdcfblgagaaGreatDoorRoA24
import Derived.Test.YtgakcdcfblgagaaGreatDoorRoA25
set_option maxRecDepth 100000
set_option maxHeartbeats 25600000
namespace Go.Proofs.YtgakcdcfblgagaaGreatDoor.Model
open Go.RowKit Num Ident Semver
open Range (Rng noRng RV KeepS LtB LenOk goodR wt)
open KR (KRow AtV)
open Name (isName)

def checkV (o:Option (Int × Int × Int × Int)):Value:=.tuple #[.agg #[.int .i64 (out4 o).1,.int .i64 (out4 o).2.1,.int .i64 (out4 o).2.2.1],.int .i64 (out4 o).2.2.2]
structure Modest (x:List MPack):Prop where
 name:∀ p ∈ x,p.name.length≤1000000
 needs:∀ p ∈ x,∀ r ∈ p.rels,r.needs.length≤1000000∧r.bans.length≤1000000
 dep:∀ p ∈ x,∀ r ∈ p.rels,∀ d ∈ r.needs ++ r.bans,d.name.length≤1000000
structure ChkAt (w:World) (ib rb nb:Nat) (A:Option Addr) (n c:Nat) (W:World):Prop where
 ix:AtV W ib [.slice A n c]
 res:AtV W rb [.int .i64 0,.int .i64 0,.int .i64 0]
 non:AtV W nb [.int .i64 (-1),.int .i64 (-1),.int .i64 (-1)]
 hi:w.heap.size≤rb
 bel:Below w.heap.size w W
theorem ChkAt.kept {w:World} {ib rb nb:Nat} {A:Option Addr} {n c:Nat} {W W':World} (h:ChkAt w ib rb nb A n c W) (hb:Below W.heap.size W W'):ChkAt w ib rb nb A n c W' :=
 ⟨h.ix.kept hb h.ix.lt,h.res.kept hb h.res.lt,h.non.kept hb h.non.lt,h.hi,h.bel.trans (hb.mono h.bel.size)⟩
theorem packF_name {x:List PPack} {k:Nat} {p:PPack} (h:isName p.name=false):packF x k p=some (-1,-1,12):=by unfold packF; rw [if_pos h]
theorem packF_there {x:List PPack} {k:Nat} {p:PPack} (h:isName p.name=true) (g:nameB PPack.name x k=true):packF x k p=some (-1,-1,6):=by unfold packF; rw [if_neg (by rw [h]; decide),if_pos g]
theorem packF_rels {x:List PPack} {k:Nat} {p:MPack} (h:isName p.name=true) (g:nameB PPack.name x k=false) {j:Nat} {q:Int × Int} (f:firstG (relF p.name (p.rels.map MRel.p)) 0 (p.rels.map MRel.p)=some (j,q)):packF x k p.p=some ((j:Int),q.1,q.2):=by
 unfold packF
 rw [if_neg (by show ¬ isName p.name=false; rw [h]; decide),if_neg (by rw [g]; decide)]
 show (firstG (relF p.name (p.rels.map MRel.p)) 0 (p.rels.map MRel.p)).map _=_
 rw [f]; rfl
theorem packF_good {x:List PPack} {k:Nat} {p:MPack} (h:isName p.name=true) (g:nameB PPack.name x k=false) (f:firstG (relF p.name (p.rels.map MRel.p)) 0 (p.rels.map MRel.p)=none):packF x k p.p=none:=by
 unfold packF
 rw [if_neg (by show ¬ isName p.name=false; rw [h]; decide),if_neg (by rw [g]; decide)]
 show (firstG (relF p.name (p.rels.map MRel.p)) 0 (p.rels.map MRel.p)).map _=_
 rw [f]; rfl
theorem relF_bad {pn:List UInt8} {l:List PRel} {k:Nat} {r:MRel} (h:goodV r.ver.v=false):relF pn l k r.p=some (-1,3):=by unfold relF; rw [if_pos (by exact h)]
theorem relF_there {pn:List UInt8} {l:List PRel} {k:Nat} {r:MRel} (h:goodV r.ver.v=true) (g:verB l k=true):relF pn l k r.p=some (-1,6):=by
 unfold relF; rw [if_neg (by show ¬ goodV r.ver.v=false; rw [h]; decide),if_pos g]
theorem relF_dep {pn:List UInt8} {l:List PRel} {k:Nat} {r:MRel} (h:goodV r.ver.v=true) (g:verB l k=false) {j:Nat} {e:Int} (f:firstG (fun j d=>toO (banE pn r.ver.v r.needs.length j d)) 0 ((r.needs ++ r.bans).map MDep.p)=some (j,e)):relF pn l k r.p=some ((j:Int),e):=by
 unfold relF
 rw [if_neg (by show ¬ goodV r.ver.v=false; rw [h]; decide),if_neg (by rw [g]; decide)]
 show (firstG (fun j d=>toO (banE pn r.ver.v (r.needs.map MDep.p).length j d)) 0 (r.needs.map MDep.p ++ r.bans.map MDep.p)).map _=_
 rw [List.length_map,← List.map_append,f]; rfl
theorem relF_none {pn:List UInt8} {l:List PRel} {k:Nat} {r:MRel} (h:goodV r.ver.v=true) (g:verB l k=false) (f:firstG (fun j d=>toO (banE pn r.ver.v r.needs.length j d)) 0 ((r.needs ++ r.bans).map MDep.p)=none):relF pn l k r.p=none:=by
 unfold relF
 rw [if_neg (by show ¬ goodV r.ver.v=false; rw [h]; decide),if_neg (by rw [g]; decide)]
 show (firstG (fun j d=>toO (banE pn r.ver.v (r.needs.map MDep.p).length j d)) 0 (r.needs.map MDep.p ++ r.bans.map MDep.p)).map _=_
 rw [List.length_map,← List.map_append,f]; rfl
theorem banE_dep {pn:List UInt8} {v:Ver} {nn j:Nat} {d:PDep} (h:depE d≠0):banE pn v nn j d=depE d:=by unfold banE; rw [if_pos h]
theorem banE_bad {pn:List UInt8} {v:Ver} {nn j:Nat} {d:PDep} (h:depE d=0) (g:nn≤j∧d.name=pn∧Nrm.inV d.r v=true):banE pn v nn j d=18:=by unfold banE; rw [if_neg (fun n=>n h),if_pos g]
theorem banE_good {pn:List UInt8} {v:Ver} {nn j:Nat} {d:PDep} (h:depE d=0) (g:¬ (nn≤j∧d.name=pn∧Nrm.inV d.r v=true)):banE pn v nn j d=0:=by unfold banE; rw [if_neg (fun n=>n h),if_neg g]
theorem depE_zero {d:PDep} (h:depE d=0):goodR d.r 0=true:=by
 unfold depE at h
 split at h
 ·cases h
 ·split at h
  ·cases h
  ·next g=>simpa using g
theorem verB_yes {l:List PRel} {k j:Nat} (hj:j<k) (hk:k<l.length) (h:sameV (l.getD j default).v (l.getD k default).v=true):verB l k=true:=by
 unfold verB
 rw [List.any_eq_true]
 refine ⟨l.getD j default,?_,h⟩
 rw [List.getD_eq_getElem?_getD,List.getElem?_eq_getElem (by omega)]
 exact List.mem_take_iff_getElem.2 ⟨j,by omega,rfl⟩
theorem verB_no {l:List PRel} {k:Nat} (h:∀ j,j<k→sameV (l.getD j default).v (l.getD k default).v=false):verB l k=false:=by
 unfold verB
 rw [List.any_eq_false]
 intro x hx
 obtain ⟨j,hj,rfl⟩:=List.mem_take_iff_getElem.1 hx
 have:=h j (by omega)
 rw [List.getD_eq_getElem?_getD,List.getElem?_eq_getElem (by omega)] at this
 rw [Bool.not_eq_true]; exact this
theorem RRow.cells {w:World} {S:Nat→Prop} {A:Option Addr} {n:Nat} {l:List MRel} (h:RRow w S A n l) {k:Nat} (hk:k<n):∃ b o,A=some ⟨b,o,none⟩∧S b∧b<w.heap.size∧w.cell? ⟨b,o+k * 8,none⟩=some (.int .u64 ((l.getD k default).ver.v.a))∧w.cell? ⟨b,o+k * 8+1,none⟩=some (.int .u64 ((l.getD k default).ver.v.b))∧w.cell? ⟨b,o+k * 8+2,none⟩=some (.int .u64 ((l.getD k default).ver.v.c))∧w.cell? ⟨b,o+k * 8+3,none⟩=some (.slice (l.getD k default).ver.A (l.getD k default).ver.v.pre.length (l.getD k default).ver.c)∧w.cell? ⟨b,o+k * 8+4,none⟩=some (.slice (l.getD k default).ver.B (l.getD k default).ver.v.build.length (l.getD k default).ver.d)∧w.cell? ⟨b,o+k * 8+5,none⟩=some (.bool (l.getD k default).yanked)∧w.cell? ⟨b,o+k * 8+6,none⟩=some (.slice (l.getD k default).N (l.getD k default).needs.length (l.getD k default).nc)∧w.cell? ⟨b,o+k * 8+7,none⟩=some (.slice (l.getD k default).B (l.getD k default).bans.length (l.getD k default).bc):=by
 obtain ⟨b,o,e,hb,hlt,hc⟩:=h.row.at_ hk
 exact ⟨b,o,e,hb,hlt,hc 0 _ rfl,hc 1 _ rfl,hc 2 _ rfl,hc 3 _ rfl,hc 4 _ rfl,hc 5 _ rfl,hc 6 _ rfl,hc 7 _ rfl⟩
theorem PRow.cells {w:World} {S:Nat→Prop} {A:Option Addr} {n:Nat} {l:List MPack} (h:PRow w S A n l) {k:Nat} (hk:k<n):∃ b o,A=some ⟨b,o,none⟩∧S b∧b<w.heap.size∧w.cell? ⟨b,o+k * 2,none⟩=some (.string (Ident.mk (l.getD k default).name))∧w.cell? ⟨b,o+k * 2+1,none⟩=some (.slice (l.getD k default).R (l.getD k default).rels.length (l.getD k default).rc):=by
 obtain ⟨b,o,e,hb,hlt,hc⟩:=h.row.at_ hk
 exact ⟨b,o,e,hb,hlt,hc 0 _ rfl,hc 1 _ rfl⟩
theorem chk_start (w:World) (A:Option Addr) (n c:Nat):∃ W,W=(((w.alloc (.cells #[.slice A n c] 26)).alloc (.cells #[.int .i64 0,.int .i64 0,.int .i64 0] 104)).alloc (.cells #[.int .i64 (-1),.int .i64 (-1),.int .i64 (-1)] 104))∧ChkAt w w.heap.size (w.heap.size+1) (w.heap.size+1+1) A n c W:=by
 have b1:Below w.heap.size w (w.alloc (.cells #[.slice A n c] 26)):=(Below.refl _ _).alloc (Nat.le_refl _) _
 refine ⟨_,rfl,?_,?_,?_,by omega,(b1.alloc b1.size _).alloc (by simp; omega) _⟩
 ·exact ((AtV.new w 26 [.slice A n c]).kept ((Below.refl _ _).alloc (Nat.le_refl _) _) (by simp)).kept ((Below.refl _ _).alloc (Nat.le_refl _) _) (by simp; omega)
 ·have:=(AtV.new (w.alloc (.cells #[.slice A n c] 26)) 104 [.int .i64 0,.int .i64 0,.int .i64 0]).kept ((Below.refl _ _).alloc (Nat.le_refl _) (.cells #[.int .i64 (-1),.int .i64 (-1),.int .i64 (-1)] 104)) (by simp)
  rw [size_alloc] at this; exact this
 ·have:=AtV.new ((w.alloc (.cells #[.slice A n c] 26)).alloc (.cells #[.int .i64 0,.int .i64 0,.int .i64 0] 104)) 104 [.int .i64 (-1),.int .i64 (-1),.int .i64 (-1)]
  rw [size_alloc,size_alloc] at this; exact this
theorem refCheck_any (A:Option Addr) (n c:Nat) (x:List MPack) (B:Nat) (w:World) (h:PRow w (LtB B) A n x) (hB:B≤w.heap.size) (hn:n≤maxLen) (hm:Modest x) :
  Calls Tryz.prog 52 #[.agg #[.slice A n c]] w fun e w'=>e=.returned (checkV (checkF (x.map MPack.p)))∧Below w.heap.size w w':=by
 have HO:=Lib.hid h
 have HL:=Lib.hid h.row.1
 have HM:=Lib.hid hm
 unfold maxLen at hn
 clear h hm
 go_enter Tryz.func52,Tryz.ntmps52
 go_upto_region 2 with (fail)
 obtain ⟨W0,hW,hc0⟩:=chk_start w A n c
 rw [← hW]
 clear hW
 have HC0:=Lib.hid hc0
 clear hc0
 obtain ⟨ib,hib⟩:∃ ib,w.heap.size=ib:=⟨_,rfl⟩
 obtain ⟨rb,hrb⟩:∃ rb,w.heap.size+1=rb:=⟨_,rfl⟩
 obtain ⟨nb,hnb⟩:∃ nb,w.heap.size+1+1=nb:=⟨_,rfl⟩
 rw [hnb,hrb,hib] at HC0
 rw [hnb,hrb,hib]
 clear hnb hrb hib
 by_cases hfull:4096<n
 ·have HF:Hid (checkF (x.map MPack.p)=some (-1,-1,-1,9)):=by unfold Hid checkF; rw [if_pos (by rw [List.length_map,HL.out]; exact hfull)]
  have i0:=HC0.out.ix.at_ 0 _ rfl
  have r0:=HC0.out.res.at_ 0 _ rfl
  have r1:=HC0.out.res.at_ 1 _ rfl
  have r2:=HC0.out.res.at_ 2 _ rfl
  have rf:=HC0.out.res.fr
  have n0:=HC0.out.non.at_ 0 _ rfl
  have n1:=HC0.out.non.at_ 1 _ rfl
  have n2:=HC0.out.non.at_ 2 _ rfl
  go_wp2
  exact bodyPost_ret (v:=.tuple #[.agg #[.int .i64 (-1),.int .i64 (-1),.int .i64 (-1)],.int .i64 9]) (by simp [results,Tryz.results52,go_sem,r0,r1,r2]) rfl ⟨by rw [HF.out]; rfl,((HC0.out.bel.setCell (p:=⟨rb,0,none⟩) HC0.out.hi _).setCell (p:=⟨rb,1,none⟩) HC0.out.hi _).setCell (p:=⟨rb,2,none⟩) HC0.out.hi _⟩
 ·have i0:=HC0.out.ix.at_ 0 _ rfl
  go_wp2
  clear i0
  go_loopw [5] (fun v W=>∃ i:Nat,i≤n∧v=.int .i64 i∧Hid (∀ j,j<i→packF (x.map MPack.p) j (x.getD j default).p=none)∧Hid (ChkAt w ib rb nb A n c W)) (fun v _=>n - (intOf v).toNat)
  case atStart=>exact ⟨0,Nat.zero_le _,rfl,(fun j hj=>by omega),HC0.out⟩
  case round =>
   rename World=>wi
   obtain ⟨i,hi,rfl,HD,HC⟩:=hrel
   by_cases hlt:i<n
   ·have hrow:=HO.out.keep (KeepS.of_below (S:=LtB B) HC.out.bel)
    have hmem:x.getD i default ∈ x:=getD_mem (by rw [HL.out]; exact hlt)
    have HPK:Hid (PackOk wi (LtB B) (x.getD i default)):=hrow.ok _ hmem
    have HMN:=Lib.hid (HM.out.name _ hmem)
    have HMR:=Lib.hid (HM.out.needs _ hmem)
    have HMD:=Lib.hid (HM.out.dep _ hmem)
    obtain ⟨b,o,e0,_,hb,c0,c1⟩:=hrow.cells hlt
    have HST:Hid (∀ q,packF (x.map MPack.p) i (x.getD i default).p=some q→checkF (x.map MPack.p)=some ((i:Int),q.1,q.2.1,q.2.2)):=fun q hq=>by
     have g:=firstG_stop (packF (x.map MPack.p)) (x.map MPack.p) 0 i q (by rw [List.length_map,HL.out]; exact hlt) (fun j hj=>by rw [map_at _ _ (by rw [HL.out]; omega),Nat.zero_add]; exact HD.out j hj) (by rw [map_at _ _ (by rw [HL.out]; exact hlt),Nat.zero_add]; exact hq)
     unfold checkF
     rw [if_neg (by rw [List.length_map,HL.out]; exact hfull),g,Nat.zero_add]; rfl
    have HYES:Hid (∀ j,j<i→(x.getD j default).name=(x.getD i default).name→nameB PPack.name (x.map MPack.p) i=true):=fun j hj e=>nameB_yes hj (by rw [List.length_map,HL.out]; exact hlt) (by rw [map_at _ _ (by rw [HL.out]; omega),map_at _ _ (by rw [HL.out]; exact hlt)]; exact e)
    have HNO:Hid ((∀ j,j<i→(x.getD j default).name≠(x.getD i default).name)→nameB PPack.name (x.map MPack.p) i=false):=fun q=>nameB_no fun j hj=>by rw [map_at _ _ (by rw [HL.out]; omega),map_at _ _ (by rw [HL.out]; exact hlt)]; exact q j hj
    have HMO:Hid (packF (x.map MPack.p) i (x.getD i default).p=none→∀ j,j<i+1→packF (x.map MPack.p) j (x.getD j default).p=none):=fun h j hj=>by
     rcases Nat.lt_or_ge j i with h1 | h1
     ·exact HD.out j h1
     ·obtain rfl:j=i:=by omega
      exact h
    clear hrow hmem
    obtain ⟨p,hp⟩:∃ p,x.getD i default=p:=⟨_,rfl⟩
    rw [hp] at c0 c1 HPK HMN HMR HMD HST HYES HNO HMO
    have HPE:=Lib.hid hp
    clear hp
    subst e0
    have i0:=HC.out.ix.at_ 0 _ rfl
    have hin:¬ n≤i:=by omega
    go_upto_region 8 with (fail)
    have HC2:Hid (ChkAt w ib rb nb (some ⟨b,o,none⟩) n c (wi.alloc (.cells #[.string (Ident.mk p.name),.slice p.R p.rels.length p.rc] 48))):=HC.out.kept ((Below.refl _ _).alloc (Nat.le_refl _) _)
    have HPB:Hid (AtV (wi.alloc (.cells #[.string (Ident.mk p.name),.slice p.R p.rels.length p.rc] 48)) wi.heap.size [.string (Ident.mk p.name),.slice p.R p.rels.length p.rc]):=AtV.new wi _ _
    obtain ⟨pb,hpb⟩:∃ pb,wi.heap.size=pb:=⟨_,rfl⟩
    have HPK2:Hid (PackOk (wi.alloc (.cells #[.string (Ident.mk p.name),.slice p.R p.rels.length p.rc] 48)) (LtB B) p):=HPK.out.keep (KeepS.of_below ((Below.refl _ _).alloc (Nat.le_refl _) _))
    rw [hpb] at HPB ⊢
    clear hpb c0 c1 i0 HPK
    generalize wi.alloc (.cells #[.string (Ident.mk p.name),.slice p.R p.rels.length p.rc] 48)=W1 at HC2 HPB HPK2 ⊢
    have p0:=HPB.out.at_ 0 _ rfl
    go_wp2_with fail
    refine (Name.ref_good_any (Ident.mk p.name) _ (by rw [mk_size]; exact HMN.out)).mono ?_
    rw [mk_list]
    rintro e W2 ⟨rfl,rfl⟩
    clear p0
    cases hnm:isName p.name
    ·have HF:Hid (checkF (x.map MPack.p)=some ((i:Int),-1,-1,12)):=HST.out (-1,-1,12) (packF_name hnm)
     clear hnm
     have r0:=HC2.out.res.at_ 0 _ rfl
     have r1:=HC2.out.res.at_ 1 _ rfl
     have r2:=HC2.out.res.at_ 2 _ rfl
     have rf:=HC2.out.res.fr
     go_wp2
     exact bodyPost_ret (v:=.tuple #[.agg #[.int .i64 ((i:Int)),.int .i64 (-1),.int .i64 (-1)],.int .i64 (12)]) (by simp [results,Tryz.results52,go_sem,r0,r1,r2]) rfl ⟨by rw [HF.out]; rfl,((HC2.out.bel.setCell (p:=⟨rb,0,none⟩) HC2.out.hi _).setCell (p:=⟨rb,1,none⟩) HC2.out.hi _).setCell (p:=⟨rb,2,none⟩) HC2.out.hi _⟩
    ·have HNM:=Lib.hid hnm
     clear hnm
     go_upto_region 10 with (fail)
     go_wp2
     go_loopw [7] (fun v W=>∃ m:Nat,m≤i∧v=.int .i64 m∧Hid (∀ j,j<m→(x.getD j default).name≠p.name)∧Hid (Below W1.heap.size W1 W)) (fun v _=>i - (intOf v).toNat)
     case atStart=>exact ⟨0,Nat.zero_le _,rfl,(fun j hj=>by omega),Below.refl _ _⟩
     case round =>
      rename World=>wm
      obtain ⟨m,hm,rfl,HDM,HWM⟩:=hrel
      have HCM:=Lib.hid (HC2.out.kept HWM.out)
      have HPBM:=Lib.hid (HPB.out.kept HWM.out HPB.out.lt)
      by_cases hmi:m<i
      ·obtain ⟨b2,o2,e2,_,_,f0,_⟩:=(HO.out.keep (KeepS.of_below (S:=LtB B) HCM.out.bel)).cells (show m<n by omega)
       injection e2 with e3
       injection e3 with e3 e4
       subst e3
       subst e4
       have HPM:Hid ((x.getD m default).name=p.name→nameB PPack.name (x.map MPack.p) i=true):=fun e=>HYES.out m hmi e
       have HDN:Hid ((x.getD m default).name≠p.name→∀ j,j<m+1→(x.getD j default).name≠p.name):=fun e j hj=>by
        rcases Nat.lt_or_ge j m with h1 | h1
        ·exact HDM.out j h1
        ·obtain rfl:j=m:=by omega
         exact e
       obtain ⟨q,hq⟩:∃ q,(x.getD m default).name=q:=⟨_,rfl⟩
       rw [hq] at f0 HPM HDN
       clear hq
       have d0:wm.drew.cell? ⟨b,o+m * 2,none⟩=_:=f0
       have d1:wm.drew.cell? ⟨pb,0,none⟩=_:=HPBM.out.at_ 0 _ rfl
       have d2:wm.drew.cell? ⟨ib,0,none⟩=_:=HCM.out.ix.at_ 0 _ rfl
       have hmn:¬ n≤m:=by omega
       by_cases hqp:q=p.name
       ·have HTH:=Lib.hid (packF_there (x:=x.map MPack.p) (k:=i) (p:=p.p) HNM.out (HPM.out hqp))
        have hbe:((Ident.mk q).toList == (Ident.mk p.name).toList)=true:=by rw [hqp]; exact mk_eq _
        clear hqp
        go_wp2
        refine wp_region_held_drew (S:=fun w'=>w'=wm.drew) (by kernel_rfl) rfl (fun hHeld=>?_)
        refine tk 0 rfl (.pointer (some ⟨ib,0,none⟩)) ?_ (hv:=fun w' hS'=>by subst hS'; go_simp)
        refine tk 1 rfl (.slice (some ⟨b,o,none⟩) n c) ?_ (hv:=fun w' hS'=>by subst hS'; go_simp)
        refine tk 2 rfl (.int .i64 m) ?_ (hv:=fun w' hS'=>by subst hS'; go_simp)
        refine tk 3 rfl (.pointer (some ⟨b,o+m * 2,none⟩)) ?_ (hv:=fun w' hS'=>by subst hS'; go_simp)
        refine tk 4 rfl (.pointer (some ⟨b,o+m * 2,none⟩)) ?_ (hv:=fun w' hS'=>by subst hS'; go_simp)
        refine tk 5 rfl (.string (Ident.mk q)) ?_ (hv:=fun w' hS'=>by subst hS'; go_simp)
        refine tk 6 rfl (.pointer (some ⟨pb,0,none⟩)) ?_ (hv:=fun w' hS'=>by subst hS'; go_simp)
        refine tk 7 rfl (.string (Ident.mk p.name)) ?_ (hv:=fun w' hS'=>by subst hS'; go_simp)
        refine tk 8 rfl (.bool true) ?_ (hv:=fun w' hS'=>by subst hS'; go_simp)
        refine wpAnyH_done (by kernel_rfl) ?_ _
        have HCD:Hid (ChkAt w ib rb nb (some ⟨b,o,none⟩) n c wm.drew):=HCM.out.kept (Below.refl _ _).drew
        clear f0 d0 d1 d2 hHeld
        generalize wm.drew=wm2 at HCD ⊢
        have HF:Hid (checkF (x.map MPack.p)=some ((i:Int),-1,-1,6)):=HST.out (-1,-1,6) HTH.out
        have r0:=HCD.out.res.at_ 0 _ rfl
        have r1:=HCD.out.res.at_ 1 _ rfl
        have r2:=HCD.out.res.at_ 2 _ rfl
        have rf:=HCD.out.res.fr
        go_wp2
        exact bodyPost_ret (v:=.tuple #[.agg #[.int .i64 ((i:Int)),.int .i64 (-1),.int .i64 (-1)],.int .i64 (6)]) (by simp [results,Tryz.results52,go_sem,r0,r1,r2]) rfl ⟨by rw [HF.out]; rfl,((HCD.out.bel.setCell (p:=⟨rb,0,none⟩) HCD.out.hi _).setCell (p:=⟨rb,1,none⟩) HCD.out.hi _).setCell (p:=⟨rb,2,none⟩) HCD.out.hi _⟩
       ·have HDN2:=Lib.hid (HDN.out hqp)
        have hbe:((Ident.mk q).toList == (Ident.mk p.name).toList)=false:=mk_ne hqp
        clear hqp
        go_wp2
        refine wp_region_held_drew (S:=fun w'=>w'=wm.drew) (by kernel_rfl) rfl (fun hHeld=>?_)
        refine tk 0 rfl (.pointer (some ⟨ib,0,none⟩)) ?_ (hv:=fun w' hS'=>by subst hS'; go_simp)
        refine tk 1 rfl (.slice (some ⟨b,o,none⟩) n c) ?_ (hv:=fun w' hS'=>by subst hS'; go_simp)
        refine tk 2 rfl (.int .i64 m) ?_ (hv:=fun w' hS'=>by subst hS'; go_simp)
        refine tk 3 rfl (.pointer (some ⟨b,o+m * 2,none⟩)) ?_ (hv:=fun w' hS'=>by subst hS'; go_simp)
        refine tk 4 rfl (.pointer (some ⟨b,o+m * 2,none⟩)) ?_ (hv:=fun w' hS'=>by subst hS'; go_simp)
        refine tk 5 rfl (.string (Ident.mk q)) ?_ (hv:=fun w' hS'=>by subst hS'; go_simp)
        refine tk 6 rfl (.pointer (some ⟨pb,0,none⟩)) ?_ (hv:=fun w' hS'=>by subst hS'; go_simp)
        refine tk 7 rfl (.string (Ident.mk p.name)) ?_ (hv:=fun w' hS'=>by subst hS'; go_simp)
        refine tk 8 rfl (.bool false) ?_ (hv:=fun w' hS'=>by subst hS'; go_simp)
        refine wpAnyH_done (by kernel_rfl) ?_ _
        have HW2:Hid (Below W1.heap.size W1 wm.drew):=HWM.out.drew
        clear f0 d0 d1 d2 hHeld HCM HPBM
        generalize wm.drew=wm2 at HW2 ⊢
        go_wp2
        exact ⟨⟨m+1,by omega,by go_num,HDN2.out,HW2.out⟩,by simp [intOf]; omega⟩
      ·obtain rfl:m=i:=by omega
       have HNB:=Lib.hid (HNO.out HDM.out)
       have HPKL:Hid (p.rels.length≤maxLen):=Nat.le_trans HPK2.out.rc.1 HPK2.out.rc.2
       clear HYES HNO HDM
       have HCW:=HCM
       have HPW:=HPBM
       have hpk:PackOk wm (LtB B) p:=HPK2.out.keep (KeepS.of_below HWM.out)
       have HRR:=Lib.hid hpk.rels
       clear hpk HCM HPBM HPK2 HC2 HPB HWM
       have HSTR:Hid (∀ k q,k<p.rels.length→(∀ j,j<k→relF p.name (p.rels.map MRel.p) j (p.rels.getD j default).p=none)→relF p.name (p.rels.map MRel.p) k (p.rels.getD k default).p=some q→checkF (x.map MPack.p)=some ((m:Int),(k:Int),q.1,q.2)):=fun k q hk hD hq=>by
        refine HST.out ((k:Int),q.1,q.2) ?_
        have g:=firstG_stop (relF p.name (p.rels.map MRel.p)) (p.rels.map MRel.p) 0 k q (by rw [List.length_map]; exact hk) (fun j hj=>by rw [map_at _ _ (by omega),Nat.zero_add]; exact hD j hj) (by rw [map_at _ _ hk,Nat.zero_add]; exact hq)
        exact packF_rels HNM.out HNB.out (by rw [Nat.zero_add] at g; exact g)
       have HALLR:Hid ((∀ j,j<p.rels.length→relF p.name (p.rels.map MRel.p) j (p.rels.getD j default).p=none)→packF (x.map MPack.p) m p.p=none):=fun h=>packF_good HNM.out HNB.out (firstG_none _ _ 0 fun j hj=>by
        rw [List.length_map] at hj
        rw [map_at _ _ hj,Nat.zero_add]; exact h j hj)
       have HRCL:Hid (p.rels.length≤maxLen):=by have:=HPKL.out; exact this
       go_wp2
       go_loopw [8] (fun v W=>∃ k:Nat,k≤p.rels.length∧v=.int .i64 k∧Hid (∀ j,j<k→relF p.name (p.rels.map MRel.p) j (p.rels.getD j default).p=none)∧Hid (Below wm.heap.size wm W)) (fun v _=>p.rels.length - (intOf v).toNat)
       case atStart=>exact ⟨0,Nat.zero_le _,rfl,(fun j hj=>by omega),Below.refl _ _⟩
       case round =>
        rename World=>wr
        obtain ⟨k,hk,rfl,HDR,HWR⟩:=hrel
        have HCR:=Lib.hid (HCW.out.kept HWR.out)
        have HPR:=Lib.hid (HPW.out.kept HWR.out HPW.out.lt)
        have hrlen:p.rels.length≤9223372036854775807:=HRCL.out
        have p1:=HPR.out.at_ 1 _ rfl
        by_cases hkl:k<p.rels.length
        ·have hrr:=HRR.out.keep (KeepS.of_below (S:=LtB B) HWR.out)
         have hrm:p.rels.getD k default ∈ p.rels:=getD_mem hkl
         have HRO:Hid (RelOk wr (LtB B) (p.rels.getD k default)):=hrr.ok _ hrm
         have HRN:=Lib.hid (HMR.out _ hrm)
         have HRD:=Lib.hid (HMD.out _ hrm)
         obtain ⟨g,og,eg,_,hgl,c0,c1,c2,c3,c4,c5,c6,c7⟩:=hrr.cells hkl
         have HEG:=Lib.hid eg
         rw [eg] at p1
         clear eg
         have HSTK:Hid (∀ q,relF p.name (p.rels.map MRel.p) k (p.rels.getD k default).p=some q→checkF (x.map MPack.p)=some ((m:Int),(k:Int),q.1,q.2)):=fun q hq=>HSTR.out k q hkl HDR.out hq
         have HMOK:Hid (relF p.name (p.rels.map MRel.p) k (p.rels.getD k default).p=none→∀ j,j<k+1→relF p.name (p.rels.map MRel.p) j (p.rels.getD j default).p=none):=fun h j hj=>by
          rcases Nat.lt_or_ge j k with h1 | h1
          ·exact HDR.out j h1
          ·obtain rfl:j=k:=by omega
           exact h
         have HVY:Hid (∀ j,j<k→sameV (p.rels.getD j default).ver.v (p.rels.getD k default).ver.v=true→verB (p.rels.map MRel.p) k=true):=fun j hj e=>verB_yes hj (by rw [List.length_map]; exact hkl) (by rw [map_at _ _ (by omega),map_at _ _ hkl]; exact e)
         have HVN:Hid ((∀ j,j<k→sameV (p.rels.getD j default).ver.v (p.rels.getD k default).ver.v=false)→verB (p.rels.map MRel.p) k=false):=fun q=>verB_no fun j hj=>by rw [map_at _ _ (by omega),map_at _ _ hkl]; exact q j hj
         clear hrr hrm
         obtain ⟨r,hr⟩:∃ r,p.rels.getD k default=r:=⟨_,rfl⟩
         rw [hr] at c0 c1 c2 c3 c4 c5 c6 c7 HRO HRN HRD HSTK HMOK HVY HVN
         have HRE:=Lib.hid hr
         clear hr
         have hkn:¬ p.rels.length≤k:=by omega
         go_upto_region 19 with (fail)
         have HAL:Hid (Below wr.heap.size wr (wr.alloc (.cells #[r.ver.v.a,r.ver.v.b,r.ver.v.c,.slice r.ver.A r.ver.v.pre.length r.ver.c,.slice r.ver.B r.ver.v.build.length r.ver.d,.bool r.yanked,.slice r.N r.needs.length r.nc,.slice r.B r.bans.length r.bc] 46))):=(Below.refl _ _).alloc (Nat.le_refl _) _
         have HCR2:=Lib.hid (HCR.out.kept HAL.out)
         have HPR2:=Lib.hid (HPR.out.kept HAL.out HPR.out.lt)
         have HRO2:Hid (RelOk (wr.alloc (.cells #[r.ver.v.a,r.ver.v.b,r.ver.v.c,.slice r.ver.A r.ver.v.pre.length r.ver.c,.slice r.ver.B r.ver.v.build.length r.ver.d,.bool r.yanked,.slice r.N r.needs.length r.nc,.slice r.B r.bans.length r.bc] 46)) (LtB B) r):=HRO.out.keep (KeepS.of_below HAL.out)
         have HRR2:=Lib.hid ((HRR.out.keep (KeepS.of_below (S:=LtB B) HWR.out)).keep (KeepS.of_below (S:=LtB B) HAL.out))
         have HWR2:=Lib.hid (HWR.out.trans (HAL.out.mono HWR.out.size))
         have HQB:Hid (AtV (wr.alloc (.cells #[r.ver.v.a,r.ver.v.b,r.ver.v.c,.slice r.ver.A r.ver.v.pre.length r.ver.c,.slice r.ver.B r.ver.v.build.length r.ver.d,.bool r.yanked,.slice r.N r.needs.length r.nc,.slice r.B r.bans.length r.bc] 46)) wr.heap.size [.int .u64 r.ver.v.a,.int .u64 r.ver.v.b,.int .u64 r.ver.v.c,.slice r.ver.A r.ver.v.pre.length r.ver.c,.slice r.ver.B r.ver.v.build.length r.ver.d,.bool r.yanked,.slice r.N r.needs.length r.nc,.slice r.B r.bans.length r.bc]):=AtV.new wr _ _
         obtain ⟨qb,hqb⟩:∃ qb,wr.heap.size=qb:=⟨_,rfl⟩
         rw [hqb] at HQB ⊢
         clear hqb c0 c1 c2 c3 c4 c5 c6 c7 p1 HRO HCR HPR HAL HWR hgl
         generalize wr.alloc (.cells #[r.ver.v.a,r.ver.v.b,r.ver.v.c,.slice r.ver.A r.ver.v.pre.length r.ver.c,.slice r.ver.B r.ver.v.build.length r.ver.d,.bool r.yanked,.slice r.N r.needs.length r.nc,.slice r.B r.bans.length r.bc] 46)=W3 at HCR2 HPR2 HRO2 HRR2 HWR2 HQB ⊢
         have q0:=HQB.out.at_ 0 _ rfl
         have q1:=HQB.out.at_ 1 _ rfl
         have q2:=HQB.out.at_ 2 _ rfl
         have q3:=HQB.out.at_ 3 _ rfl
         have q4:=HQB.out.at_ 4 _ rfl
         go_wp2_with fail
         refine (refGood_all r.ver.v r.ver.A r.ver.c r.ver.B r.ver.d _ HRO2.out.ver.pre HRO2.out.ver.build HRO2.out.ver.fit.pre HRO2.out.ver.fit.build HRO2.out.ver.fit.pres HRO2.out.ver.fit.builds).mono ?_
         rintro e W4 ⟨rfl,hb4⟩
         have HC4:=Lib.hid (HCR2.out.kept hb4)
         have HP4:=Lib.hid (HPR2.out.kept hb4 HPR2.out.lt)
         have HQ4:=Lib.hid (HQB.out.kept hb4 HQB.out.lt)
         have HRO4:Hid (RelOk W4 (LtB B) r):=HRO2.out.keep (KeepS.of_below hb4)
         have HRR4:=Lib.hid (HRR2.out.keep (KeepS.of_below (S:=LtB B) hb4))
         have HW4:=Lib.hid (HWR2.out.trans (hb4.mono HWR2.out.size))
         clear hb4 q0 q1 q2 q3 q4 HCR2 HPR2 HQB HRO2 HRR2 HWR2
         cases hgv:goodV r.ver.v
         ·have HF:Hid (checkF (x.map MPack.p)=some ((m:Int),(k:Int),-1,3)):=HSTK.out (-1,3) (relF_bad hgv)
          clear hgv
          have r0:=HC4.out.res.at_ 0 _ rfl
          have r1:=HC4.out.res.at_ 1 _ rfl
          have r2:=HC4.out.res.at_ 2 _ rfl
          have rf:=HC4.out.res.fr
          go_wp2
          exact bodyPost_ret (v:=.tuple #[.agg #[.int .i64 ((m:Int)),.int .i64 ((k:Int)),.int .i64 (-1)],.int .i64 (3)]) (by simp [results,Tryz.results52,go_sem,r0,r1,r2]) rfl ⟨by rw [HF.out]; rfl,((HC4.out.bel.setCell (p:=⟨rb,0,none⟩) HC4.out.hi _).setCell (p:=⟨rb,1,none⟩) HC4.out.hi _).setCell (p:=⟨rb,2,none⟩) HC4.out.hi _⟩
         ·have HGV:=Lib.hid hgv
          clear hgv
          go_wp2
          go_loopw [10] (fun v W=>∃ j:Nat,j≤k∧v=.int .i64 j∧Hid (∀ i,i<j→sameV (p.rels.getD i default).ver.v r.ver.v=false)∧Hid (Below W4.heap.size W4 W)) (fun v _=>k - (intOf v).toNat)
          case atStart=>exact ⟨0,Nat.zero_le _,rfl,(fun j hj=>by omega),Below.refl _ _⟩
          case round =>
           rename World=>wj
           obtain ⟨j,hj,rfl,HDJ,HWJ⟩:=hrel
           have HCJ:=Lib.hid (HC4.out.kept HWJ.out)
           have HPJ:=Lib.hid (HP4.out.kept HWJ.out HP4.out.lt)
           have HQJ:=Lib.hid (HQ4.out.kept HWJ.out HQ4.out.lt)
           have HROJ:Hid (RelOk wj (LtB B) r):=HRO4.out.keep (KeepS.of_below HWJ.out)
           by_cases hjk:j<k
           ·have hrr:=HRR4.out.keep (KeepS.of_below (S:=LtB B) HWJ.out)
            have HUO:Hid (RelOk wj (LtB B) (p.rels.getD j default)):=hrr.ok _ (getD_mem (by omega))
            obtain ⟨g2,og2,eg2,_,hg2,f0,f1,f2,f3,f4,_,_,_⟩:=hrr.cells (show j<p.rels.length by omega)
            have e3:=eg2.symm.trans HEG.out
            injection e3 with e3
            injection e3 with e3 e4
            subst e3
            subst e4
            have HYJ:Hid (sameV (p.rels.getD j default).ver.v r.ver.v=true→verB (p.rels.map MRel.p) k=true):=fun e=>HVY.out j hjk e
            have HNJ:Hid (sameV (p.rels.getD j default).ver.v r.ver.v=false→∀ i,i<j+1→sameV (p.rels.getD i default).ver.v r.ver.v=false):=fun e i hi=>by
             rcases Nat.lt_or_ge i j with h1 | h1
             ·exact HDJ.out i h1
             ·obtain rfl:i=j:=by omega
              exact e
            obtain ⟨u,hu⟩:∃ u,(p.rels.getD j default).ver=u:=⟨_,rfl⟩
            have HUV:Hid (VerOk wj (LtB B) u):=by unfold Hid; rw [← hu]; exact HUO.out.ver
            rw [hu] at f0 f1 f2 f3 f4 HYJ HNJ
            clear hrr hu HUO eg2
            have d0:wj.drew.cell? ⟨g2,og2+j * 8,none⟩=_:=f0
            have d1:wj.drew.cell? ⟨g2,og2+j * 8+1,none⟩=_:=f1
            have d2:wj.drew.cell? ⟨g2,og2+j * 8+2,none⟩=_:=f2
            have d3:wj.drew.cell? ⟨g2,og2+j * 8+3,none⟩=_:=f3
            have d4:wj.drew.cell? ⟨g2,og2+j * 8+4,none⟩=_:=f4
            have s0:wj.drew.cell? ⟨qb,0,none⟩=_:=HQJ.out.at_ 0 _ rfl
            have s1:wj.drew.cell? ⟨qb,1,none⟩=_:=HQJ.out.at_ 1 _ rfl
            have s2:wj.drew.cell? ⟨qb,2,none⟩=_:=HQJ.out.at_ 2 _ rfl
            have s3:wj.drew.cell? ⟨qb,3,none⟩=_:=HQJ.out.at_ 3 _ rfl
            have s4:wj.drew.cell? ⟨qb,4,none⟩=_:=HQJ.out.at_ 4 _ rfl
            have t1:wj.drew.cell? ⟨pb,1,none⟩=some (.slice (some ⟨g2,og2,none⟩) p.rels.length p.rc):=by have:=HPJ.out.at_ 1 _ rfl; rw [HEG.out] at this; exact this
            have hjn:¬ p.rels.length≤j:=by omega
            clear f0 f1 f2 f3 f4
            have HWD:Hid (Below W4.heap.size W4 wj.drew):=HWJ.out.drew
            have HCD:Hid (ChkAt w ib rb nb (some ⟨b,o,none⟩) n c wj.drew):=HCJ.out.kept (Below.refl _ _).drew
            have HUD:Hid (VerOk wj.drew (LtB B) u):=HUV.out.keep (KeepS.of_below (Below.refl _ _).drew)
            have HRD2:Hid (VerOk wj.drew (LtB B) r.ver):=HROJ.out.ver.keep (KeepS.of_below (Below.refl _ _).drew)
            have l0:pb<wj.drew.heap.size:=HPJ.out.lt
            have l1:qb<wj.drew.heap.size:=HQJ.out.lt
            have l2:g2<wj.drew.heap.size:=hg2
            have H0:Hid (Below wj.drew.heap.size wj.drew wj.drew):=Below.refl _ _
            go_wp2
            refine wp_region_held_drew (S:=fun w'=>Below wj.drew.heap.size wj.drew w') (by kernel_rfl) H0.out (fun hHeld=>?_)
            clear HPJ HQJ HROJ HUV HCJ HWJ hg2
            generalize wj.drew=wd at d0 d1 d2 d3 d4 s0 s1 s2 s3 s4 t1 HWD HCD HUD HRD2 l0 l1 l2 H0 hHeld ⊢
            refine tk 0 rfl (.pointer (some ⟨pb,1,none⟩)) ?_
            refine tk 1 rfl (.slice (some ⟨g2,og2,none⟩) p.rels.length p.rc) ?_ (hv:=fun w' hS'=>by (have z0:=(hS'.cell (p:=⟨pb,1,none⟩) l0).trans t1); go_simp)
            refine tk 2 rfl (.int .i64 j) ?_
            refine tk 3 rfl (.pointer (some ⟨g2,og2+j * 8,none⟩)) ?_
            refine tk 4 rfl (.pointer (some ⟨g2,og2+j * 8,none⟩)) ?_
            refine tk 5 rfl (.agg #[u.v.a,u.v.b,u.v.c,.slice u.A u.v.pre.length u.c,.slice u.B u.v.build.length u.d]) ?_ (hv:=fun w' hS'=>by (have z0:=(hS'.cell (p:=⟨g2,og2+j * 8,none⟩) l2).trans d0); (have z1:=(hS'.cell (p:=⟨g2,og2+j * 8+1,none⟩) l2).trans d1); (have z2:=(hS'.cell (p:=⟨g2,og2+j * 8+2,none⟩) l2).trans d2); (have z3:=(hS'.cell (p:=⟨g2,og2+j * 8+3,none⟩) l2).trans d3); (have z4:=(hS'.cell (p:=⟨g2,og2+j * 8+4,none⟩) l2).trans d4); go_simp)
            refine tk 6 rfl (.pointer (some ⟨qb,0,none⟩)) ?_
            refine tk 7 rfl (.agg #[r.ver.v.a,r.ver.v.b,r.ver.v.c,.slice r.ver.A r.ver.v.pre.length r.ver.c,.slice r.ver.B r.ver.v.build.length r.ver.d]) ?_ (hv:=fun w' hS'=>by (have z0:=(hS'.cell (p:=⟨qb,0,none⟩) l1).trans s0); (have z1:=(hS'.cell (p:=⟨qb,1,none⟩) l1).trans s1); (have z2:=(hS'.cell (p:=⟨qb,2,none⟩) l1).trans s2); (have z3:=(hS'.cell (p:=⟨qb,3,none⟩) l1).trans s3); (have z4:=(hS'.cell (p:=⟨qb,4,none⟩) l1).trans s4); go_simp)
            obtain ⟨sm,hsm⟩:∃ sm,sameV u.v r.ver.v=sm:=⟨_,rfl⟩
            have HSM:=Lib.hid hsm
            refine cl 8 rfl fun K hK=>?_
            go_simp
            refine (refSame_any u.v r.ver.v u.A u.B r.ver.A r.ver.B u.c u.d r.ver.c r.ver.d _ HUD.out.pre HUD.out.build HRD2.out.pre HRD2.out.build HUD.out.fit.pre HUD.out.fit.build HRD2.out.fit.pre HRD2.out.fit.build).mono ?_
            rw [hsm]
            rintro e W5 ⟨rfl,hb5⟩
            have HC5:=Lib.hid (HCD.out.kept hb5)
            have HW5:=Lib.hid (HWD.out.trans (hb5.mono HWD.out.size))
            refine hK.out _ _ hb5 (fun hHeld2=>?_)
            clear hK K hHeld2 hb5 hsm d0 d1 d2 d3 d4 s0 s1 s2 s3 s4 t1
            try simp only [Act.put,p1,p2,p3]
            refine wpAnyH_done (by kernel_rfl) ?_ _
            cases sm
            ·have HN2:=Lib.hid (HNJ.out HSM.out)
             go_wp2
             exact ⟨⟨j+1,by omega,by go_num,HN2.out,HW5.out⟩,by simp [intOf]; omega⟩
            ·have HTH:=Lib.hid (relF_there (pn:=p.name) (l:=p.rels.map MRel.p) (k:=k) (r:=r) HGV.out (HYJ.out HSM.out))
             have HF:Hid (checkF (x.map MPack.p)=some ((m:Int),(k:Int),-1,6)):=HSTK.out (-1,6) HTH.out
             have r0:=HC5.out.res.at_ 0 _ rfl
             have r1:=HC5.out.res.at_ 1 _ rfl
             have r2:=HC5.out.res.at_ 2 _ rfl
             have rf:=HC5.out.res.fr
             go_wp2
             exact bodyPost_ret (v:=.tuple #[.agg #[.int .i64 ((m:Int)),.int .i64 ((k:Int)),.int .i64 (-1)],.int .i64 (6)]) (by simp [results,Tryz.results52,go_sem,r0,r1,r2]) rfl ⟨by rw [HF.out]; rfl,((HC5.out.bel.setCell (p:=⟨rb,0,none⟩) HC5.out.hi _).setCell (p:=⟨rb,1,none⟩) HC5.out.hi _).setCell (p:=⟨rb,2,none⟩) HC5.out.hi _⟩
           ·obtain rfl:j=k:=by omega
            have HVB:=Lib.hid (HVN.out HDJ.out)
            clear HDJ HVN HVY
            have s0:=HQJ.out.at_ 0 _ rfl
            have s1:=HQJ.out.at_ 1 _ rfl
            have s2:=HQJ.out.at_ 2 _ rfl
            have s3:=HQJ.out.at_ 3 _ rfl
            have s4:=HQJ.out.at_ 4 _ rfl
            have s5:=HQJ.out.at_ 5 _ rfl
            have s6:=HQJ.out.at_ 6 _ rfl
            have s7:=HQJ.out.at_ 7 _ rfl
            go_wp2_with fail
            refine (refAll_any r B _ HROJ.out (Nat.le_trans hB HCJ.out.bel.size) HRN.out.1 HRN.out.2).mono ?_
            rintro e W7 ⟨A7,c7,rfl,hc7,hn7,hk7,hok7,hb7⟩
            have HC7:=Lib.hid (HCJ.out.kept hb7)
            have HP7:=Lib.hid (HPJ.out.kept hb7 HPJ.out.lt)
            have HQ7:=Lib.hid (HQJ.out.kept hb7 HQJ.out.lt)
            have HRV7:Hid (VerOk W7 (LtB B) r.ver):=HROJ.out.ver.keep (KeepS.of_below hb7)
            have HW7:=Lib.hid ((HW4.out.trans (HWJ.out.mono HW4.out.size)).trans (hb7.mono (Nat.le_trans HW4.out.size HWJ.out.size)))
            clear hb7 s0 s1 s2 s3 s4 s5 s6 s7 HCJ HPJ HQJ HROJ HWJ HC4 HP4 HQ4 HRO4 HRR4 HW4
            have HSTD:Hid (∀ i e,i<(r.needs ++ r.bans).length→(∀ q,q<i→banE p.name r.ver.v r.needs.length q ((r.needs ++ r.bans).getD q default).p=0)→e≠0→banE p.name r.ver.v r.needs.length i ((r.needs ++ r.bans).getD i default).p=e→checkF (x.map MPack.p)=some ((m:Int),(j:Int),(i:Int),e)):=fun i e hi hD he hb=>by
             refine HSTK.out ((i:Int),e) (relF_dep HGV.out HVB.out ?_)
             have g:=firstG_stop (fun j d=>toO (banE p.name r.ver.v r.needs.length j d)) ((r.needs ++ r.bans).map MDep.p) 0 i e (by rw [List.length_map]; exact hi) (fun q hq=>by rw [map_at _ _ (by omega),Nat.zero_add]; exact toO_none.2 (hD q hq)) (by rw [map_at _ _ hi,Nat.zero_add,hb]; exact toO_some he)
             rw [Nat.zero_add] at g; exact g
            have HALLD:Hid ((∀ q,q<(r.needs ++ r.bans).length→banE p.name r.ver.v r.needs.length q ((r.needs ++ r.bans).getD q default).p=0)→relF p.name (p.rels.map MRel.p) j r.p=none):=fun h=>relF_none HGV.out HVB.out (firstG_none _ _ 0 fun q hq=>by
             rw [List.length_map] at hq
             rw [map_at _ _ hq,Nat.zero_add]; exact toO_none.2 (h q hq))
            have HLL:Hid ((r.needs ++ r.bans).length≤2000000):=by have:=HRN.out; unfold Hid; rw [List.length_append]; omega
            obtain ⟨L,hL⟩:∃ L,r.needs ++ r.bans=L:=⟨_,rfl⟩
            rw [hL] at hc7 hk7 hok7 HSTD HALLD HLL HRD ⊢
            have hll:L.length≤2000000:=HLL.out
            have HK7:=Lib.hid hk7
            have HO7:=Lib.hid hok7
            clear hk7 hok7 hL hn7 hc7
            go_wp2
            go_loopw [12] (fun v W=>∃ i:Nat,i≤L.length∧v=.int .i64 i∧Hid (∀ q,q<i→banE p.name r.ver.v r.needs.length q (L.getD q default).p=0)∧Hid (Below W7.heap.size W7 W)) (fun v _=>L.length - (intOf v).toNat)
            case atStart=>exact ⟨0,Nat.zero_le _,rfl,(fun j hj=>by omega),Below.refl _ _⟩
            case round =>
             rename World=>wd
             obtain ⟨i,hi,rfl,HDD,HWD⟩:=hrel
             have HCD:=Lib.hid (HC7.out.kept HWD.out)
             have HPD:=Lib.hid (HP7.out.kept HWD.out HP7.out.lt)
             have HQD:=Lib.hid (HQ7.out.kept HWD.out HQ7.out.lt)
             have HRV8:Hid (VerOk wd (LtB B) r.ver):=HRV7.out.keep (KeepS.of_below HWD.out)
             by_cases hil:i<L.length
             ·have HST8:Hid (∀ e,e≠0→banE p.name r.ver.v r.needs.length i (L.getD i default).p=e→checkF (x.map MPack.p)=some ((m:Int),(j:Int),(i:Int),e)):=fun e he hb=>HSTD.out i e hil HDD.out he hb
              have HMO8:Hid (banE p.name r.ver.v r.needs.length i (L.getD i default).p=0→∀ q,q<i+1→banE p.name r.ver.v r.needs.length q (L.getD q default).p=0):=fun h q hq=>by
               rcases Nat.lt_or_ge q i with h1 | h1
               ·exact HDD.out q h1
               ·obtain rfl:q=i:=by omega
                exact h
              have HDO:Hid (DepOk wd (LtB B) (L.getD i default)):=(HO7.out _ (getD_mem hil)).keep (KeepS.of_below HWD.out)
              have HDN:=Lib.hid (HRD.out _ (getD_mem hil))
              obtain ⟨a,oa,rfl,_,hla,hca⟩:=HK7.out.at_ hil
              obtain ⟨d,hd⟩:∃ d,L.getD i default=d:=⟨_,rfl⟩
              rw [hd] at hca HST8 HMO8 HDO HDN
              clear hd
              have HCA:=Lib.hid (fun W (hb:Below W7.heap.size W7 W) i' u hu=>(hb.cell (p:=⟨a,oa+i * 8+i',none⟩) hla).trans (hca i' u hu))
              have HLA:=Lib.hid hla
              clear hca hla
              have g0:=HCA.out _ HWD.out 0 _ rfl
              have g1:=HCA.out _ HWD.out 1 _ rfl
              have g2:=HCA.out _ HWD.out 2 _ rfl
              have g3:=HCA.out _ HWD.out 3 _ rfl
              have g4:=HCA.out _ HWD.out 4 _ rfl
              have g5:=HCA.out _ HWD.out 5 _ rfl
              have g6:=HCA.out _ HWD.out 6 _ rfl
              have g7:=HCA.out _ HWD.out 7 _ rfl
              rw [Nat.add_zero] at g0
              have hin2:¬ L.length≤i:=by omega
              go_wp2_with fail
              refine (refDep_any d B _ HDO.out (Nat.le_trans hB HCD.out.bel.size) HDN.out).mono ?_
              rintro e W8 ⟨rfl,hb8⟩
              have HC8:=Lib.hid (HCD.out.kept hb8)
              have HP8:=Lib.hid (HPD.out.kept hb8 HPD.out.lt)
              have HQ8:=Lib.hid (HQD.out.kept hb8 HQD.out.lt)
              have HRV9:Hid (VerOk W8 (LtB B) r.ver):=HRV8.out.keep (KeepS.of_below hb8)
              have HDO9:Hid (DepOk W8 (LtB B) d):=HDO.out.keep (KeepS.of_below hb8)
              have HW8:=Lib.hid (HWD.out.trans (hb8.mono HWD.out.size))
              clear hb8 g0 g1 g2 g3 g4 g5 g6 g7 HCD HPD HQD HRV8 HDO HWD
              obtain ⟨e,he⟩:∃ e,depE d.p=e:=⟨_,rfl⟩
              have HEE:=Lib.hid he
              rw [he]
              clear he
              by_cases h0:e=0
              ·have hb0:(e != 0)=false:=by rw [h0]; rfl
               have HZ:Hid (depE d.p=0):=by unfold Hid; rw [HEE.out,h0]
               clear h0
               go_upto_region 33 with (fail)
               have HBG:=Lib.hid (fun h=>banE_good (pn:=p.name) (v:=r.ver.v) (nn:=r.needs.length) (j:=i) HZ.out h)
               have HBB:=Lib.hid (fun h=>banE_bad (pn:=p.name) (v:=r.ver.v) (nn:=r.needs.length) (j:=i) HZ.out h)
               have HGR:Hid (goodR d.r 0=true):=depE_zero HZ.out
               have H0:Hid (Below W8.heap.size W8 W8.drew):=(Below.refl _ _).drew
               have l0:qb<W8.heap.size:=HQ8.out.lt
               have l1:pb<W8.heap.size:=HP8.out.lt
               have l2:a<W8.heap.size:=Nat.lt_of_lt_of_le HLA.out HW8.out.size
               have s0:=HQ8.out.at_ 0 _ rfl
               have s1:=HQ8.out.at_ 1 _ rfl
               have s2:=HQ8.out.at_ 2 _ rfl
               have s3:=HQ8.out.at_ 3 _ rfl
               have s4:=HQ8.out.at_ 4 _ rfl
               have s6:=HQ8.out.at_ 6 _ rfl
               have t0:=HP8.out.at_ 0 _ rfl
               have g0:=HCA.out _ HW8.out 0 _ rfl
               have g1:=HCA.out _ HW8.out 1 _ rfl
               have g2:=HCA.out _ HW8.out 2 _ rfl
               have g3:=HCA.out _ HW8.out 3 _ rfl
               have g4:=HCA.out _ HW8.out 4 _ rfl
               have g5:=HCA.out _ HW8.out 5 _ rfl
               have g6:=HCA.out _ HW8.out 6 _ rfl
               have g7:=HCA.out _ HW8.out 7 _ rfl
               rw [Nat.add_zero] at g0
               refine wp_region_held_drew (S:=fun w'=>Below W8.heap.size W8 w') (by kernel_rfl) H0.out (fun hHeld=>?_)
               generalize W8.drew=W9 at H0 hHeld ⊢
               have HC9:=Lib.hid (HC8.out.kept H0.out)
               have HW9:=Lib.hid (HW8.out.trans (H0.out.mono HW8.out.size))
               refine tk 0 rfl (.int .i64 i) ?_
               refine tk 1 rfl (.pointer (some ⟨qb,6,none⟩)) ?_
               refine tk 2 rfl (.slice r.N r.needs.length r.nc) ?_ (hv:=fun w' hS'=>by (have z0:=(hS'.cell (p:=⟨qb,6,none⟩) l0).trans s6); go_simp)
               refine tk 3 rfl (.int .i64 r.needs.length) ?_
               by_cases hnn:r.needs.length≤i
               ·have hge:((r.needs.length:Int)≤(i:Int)):=by omega
                have HNN:=Lib.hid hnn
                clear hnn
                refine tk 4 rfl (.bool true) ?_
                refine tk 5 rfl (.bool true) ?_
                refine tk 6 rfl (.slice (some ⟨a,oa,none⟩) L.length c7) ?_
                refine tk 7 rfl (.int .i64 i) ?_
                refine tk 8 rfl (.pointer (some ⟨a,oa+i * 8,none⟩)) ?_
                refine tk 9 rfl (.pointer (some ⟨a,oa+i * 8,none⟩)) ?_
                refine tk 10 rfl (.string (Ident.mk d.name)) ?_ (hv:=fun w' hS'=>by (have z0:=(hS'.cell (p:=⟨a,oa+i * 8,none⟩) l2).trans g0); go_simp)
                refine tk 11 rfl (.pointer (some ⟨pb,0,none⟩)) ?_
                refine tk 12 rfl (.string (Ident.mk p.name)) ?_ (hv:=fun w' hS'=>by (have z0:=(hS'.cell (p:=⟨pb,0,none⟩) l1).trans t0); go_simp)
                by_cases hnq:d.name=p.name
                ·have hbe:((Ident.mk d.name).toList == (Ident.mk p.name).toList)=true:=by rw [hnq]; exact mk_eq _
                 have HNQ:=Lib.hid hnq
                 clear hnq
                 refine tk 13 rfl (.bool true) ?_
                 refine tk 14 rfl (.bool true) ?_
                 refine tk 15 rfl (.bool true) ?_
                 refine tk 16 rfl (.slice (some ⟨a,oa,none⟩) L.length c7) ?_
                 refine tk 17 rfl (.int .i64 i) ?_
                 refine tk 18 rfl (.pointer (some ⟨a,oa+i * 8,none⟩)) ?_
                 refine tk 19 rfl (.pointer (some ⟨a,oa+i * 8+1,none⟩)) ?_
                 refine tk 20 rfl d.x ?_ (hv:=fun w' hS'=>by (have z0:=(hS'.cell (p:=⟨a,oa+i * 8+1,none⟩) l2).trans g1); (have z1:=(hS'.cell (p:=⟨a,oa+i * 8+2,none⟩) l2).trans g2); (have z2:=(hS'.cell (p:=⟨a,oa+i * 8+3,none⟩) l2).trans g3); (have z3:=(hS'.cell (p:=⟨a,oa+i * 8+4,none⟩) l2).trans g4); (have z4:=(hS'.cell (p:=⟨a,oa+i * 8+5,none⟩) l2).trans g5); (have z5:=(hS'.cell (p:=⟨a,oa+i * 8+6,none⟩) l2).trans g6); (have z6:=(hS'.cell (p:=⟨a,oa+i * 8+7,none⟩) l2).trans g7); go_simp)
                 refine tk 21 rfl (.pointer (some ⟨qb,0,none⟩)) ?_
                 refine tk 22 rfl (.agg #[r.ver.v.a,r.ver.v.b,r.ver.v.c,.slice r.ver.A r.ver.v.pre.length r.ver.c,.slice r.ver.B r.ver.v.build.length r.ver.d]) ?_ (hv:=fun w' hS'=>by (have z0:=(hS'.cell (p:=⟨qb,0,none⟩) l0).trans s0); (have z1:=(hS'.cell (p:=⟨qb,1,none⟩) l0).trans s1); (have z2:=(hS'.cell (p:=⟨qb,2,none⟩) l0).trans s2); (have z3:=(hS'.cell (p:=⟨qb,3,none⟩) l0).trans s3); (have z4:=(hS'.cell (p:=⟨qb,4,none⟩) l0).trans s4); go_simp)
                 obtain ⟨iv,hiv⟩:∃ iv,Nrm.inV d.r r.ver.v=iv:=⟨_,rfl⟩
                 have HIV:=Lib.hid hiv
                 refine cl 23 rfl fun K hK=>?_
                 go_simp
                 refine (Nrm.in_any r.ver.v r.ver.A r.ver.c r.ver.B r.ver.d HRV9.out.fit.pre (Nrm.good_ids HGV.out) (wt d.r) d.r d.x B 0 _ (Nat.le_refl _) HDO9.out.len (HDO9.out.lies.keep (KeepS.of_below H0.out)) (Nat.le_trans hB HC9.out.bel.size) HGR.out (HRV9.out.pre.kept H0.out) (HRV9.out.build.kept H0.out)).mono ?_
                 rw [hiv]
                 rintro e W10 ⟨rfl,hb10⟩
                 have HC10:=Lib.hid (HC9.out.kept hb10)
                 have HW10:=Lib.hid (HW9.out.trans (hb10.mono HW9.out.size))
                 refine hK.out _ _ (H0.out.trans (hb10.mono H0.out.size)) (fun hHeld2=>?_)
                 clear hK K hb10 hiv s0 s1 s2 s3 s4 s6 t0 g0 g1 g2 g3 g4 g5 g6 g7
                 try simp only [Act.put,p1,p2,p3]
                 refine tk 24 rfl (.bool iv) ?_
                 refine wpAnyH_done (by kernel_rfl) ?_ _
                 cases iv
                 ·have HN5:=Lib.hid (HMO8.out (HBG.out (by rintro ⟨_,_,h⟩; rw [show Nrm.inV d.p.r r.ver.v=false from HIV.out] at h; cases h)))
                  go_wp2
                  exact ⟨⟨i+1,by omega,by go_num,HN5.out,HW10.out⟩,by simp [intOf]; omega⟩
                 ·have HBD2:=Lib.hid (HBB.out ⟨HNN.out,HNQ.out,HIV.out⟩)
                  have HF:Hid (checkF (x.map MPack.p)=some ((m:Int),(j:Int),(i:Int),18)):=HST8.out 18 (by decide) HBD2.out
                  have r0:=HC10.out.res.at_ 0 _ rfl
                  have r1:=HC10.out.res.at_ 1 _ rfl
                  have r2:=HC10.out.res.at_ 2 _ rfl
                  have rf:=HC10.out.res.fr
                  go_wp2
                  exact bodyPost_ret (v:=.tuple #[.agg #[.int .i64 ((m:Int)),.int .i64 ((j:Int)),.int .i64 ((i:Int))],.int .i64 (18)]) (by simp [results,Tryz.results52,go_sem,r0,r1,r2]) rfl ⟨by rw [HF.out]; rfl,((HC10.out.bel.setCell (p:=⟨rb,0,none⟩) HC10.out.hi _).setCell (p:=⟨rb,1,none⟩) HC10.out.hi _).setCell (p:=⟨rb,2,none⟩) HC10.out.hi _⟩
                ·have hbe:((Ident.mk d.name).toList == (Ident.mk p.name).toList)=false:=mk_ne hnq
                 have HN5:=Lib.hid (HMO8.out (HBG.out (fun h=>hnq h.2.1)))
                 clear hnq
                 refine tk 13 rfl (.bool false) ?_
                 refine tk 14 rfl (.bool false) ?_
                 refine tk 15 rfl (.bool false) ?_
                 refine sk 16 rfl ?_
                 refine sk 17 rfl ?_
                 refine sk 18 rfl ?_
                 refine sk 19 rfl ?_
                 refine sk 20 rfl ?_
                 refine sk 21 rfl ?_
                 refine sk 22 rfl ?_
                 refine sk 23 rfl ?_
                 refine tk 24 rfl (.bool false) ?_
                 refine wpAnyH_done (by kernel_rfl) ?_ _
                 clear s0 s1 s2 s3 s4 s6 t0 g0 g1 g2 g3 g4 g5 g6 g7
                 go_wp2
                 exact ⟨⟨i+1,by omega,by go_num,HN5.out,HW9.out⟩,by simp [intOf]; omega⟩
               ·have hge:¬ ((r.needs.length:Int)≤(i:Int)):=by omega
                have HN5:=Lib.hid (HMO8.out (HBG.out (fun h=>hnn h.1)))
                clear hnn
                refine tk 4 rfl (.bool false) ?_
                refine tk 5 rfl (.bool false) ?_
                refine sk 6 rfl ?_
                refine sk 7 rfl ?_
                refine sk 8 rfl ?_
                refine sk 9 rfl ?_
                refine sk 10 rfl ?_
                refine sk 11 rfl ?_
                refine sk 12 rfl ?_
                refine sk 13 rfl ?_
                refine tk 14 rfl (.bool false) ?_
                refine tk 15 rfl (.bool false) ?_
                refine sk 16 rfl ?_
                refine sk 17 rfl ?_
                refine sk 18 rfl ?_
                refine sk 19 rfl ?_
                refine sk 20 rfl ?_
                refine sk 21 rfl ?_
                refine sk 22 rfl ?_
                refine sk 23 rfl ?_
                refine tk 24 rfl (.bool false) ?_
                refine wpAnyH_done (by kernel_rfl) ?_ _
                clear s0 s1 s2 s3 s4 s6 t0 g0 g1 g2 g3 g4 g5 g6 g7
                go_wp2
                exact ⟨⟨i+1,by omega,by go_num,HN5.out,HW9.out⟩,by simp [intOf]; omega⟩
              ·have hb0:(e != 0)=true:=by simpa using h0
               have HNZ:=Lib.hid h0
               clear h0
               have HF:Hid (checkF (x.map MPack.p)=some ((m:Int),(j:Int),(i:Int),e)):=HST8.out e HNZ.out (by rw [banE_dep (by rw [HEE.out]; exact HNZ.out),HEE.out])
               have r0:=HC8.out.res.at_ 0 _ rfl
               have r1:=HC8.out.res.at_ 1 _ rfl
               have r2:=HC8.out.res.at_ 2 _ rfl
               have rf:=HC8.out.res.fr
               go_wp2
               exact bodyPost_ret (v:=.tuple #[.agg #[.int .i64 ((m:Int)),.int .i64 ((j:Int)),.int .i64 ((i:Int))],.int .i64 (e)]) (by simp [results,Tryz.results52,go_sem,r0,r1,r2]) rfl ⟨by rw [HF.out]; rfl,((HC8.out.bel.setCell (p:=⟨rb,0,none⟩) HC8.out.hi _).setCell (p:=⟨rb,1,none⟩) HC8.out.hi _).setCell (p:=⟨rb,2,none⟩) HC8.out.hi _⟩
             ·obtain rfl:i=L.length:=by omega
              have HN3:=Lib.hid (HMOK.out (HALLD.out HDD.out))
              have HW9:=Lib.hid (HW7.out.trans (HWD.out.mono HW7.out.size))
              go_wp2
              exact ⟨⟨j+1,by omega,by go_num,HN3.out,HW9.out⟩,by simp [intOf]; omega⟩
        ·obtain rfl:k=p.rels.length:=by omega
         have HOK:=Lib.hid (HMO.out (HALLR.out HDR.out))
         go_wp2
         exact ⟨⟨m+1,by omega,by go_num,HOK.out,HCR.out⟩,by simp [intOf]; omega⟩
   ·obtain rfl:i=n:=by omega
    have HF:Hid (checkF (x.map MPack.p)=none):=by
     unfold Hid checkF
     rw [if_neg (by rw [List.length_map,HL.out]; exact hfull),firstG_none _ _ 0 (fun j hj=>by
      rw [List.length_map] at hj
      rw [map_at _ _ hj,Nat.zero_add]; exact HD.out j (by rw [← HL.out]; exact hj))]; rfl
    have i0:=HC.out.ix.at_ 0 _ rfl
    have r0:=HC.out.res.at_ 0 _ rfl
    have r1:=HC.out.res.at_ 1 _ rfl
    have r2:=HC.out.res.at_ 2 _ rfl
    have rf:=HC.out.res.fr
    have n0:=HC.out.non.at_ 0 _ rfl
    have n1:=HC.out.non.at_ 1 _ rfl
    have n2:=HC.out.non.at_ 2 _ rfl
    go_wp2
    exact bodyPost_ret (v:=.tuple #[.agg #[.int .i64 (-1),.int .i64 (-1),.int .i64 (-1)],.int .i64 0]) (by simp [results,Tryz.results52,go_sem,r0,r1,r2]) rfl ⟨by rw [HF.out]; rfl,((HC.out.bel.setCell (p:=⟨rb,0,none⟩) HC.out.hi _).setCell (p:=⟨rb,1,none⟩) HC.out.hi _).setCell (p:=⟨rb,2,none⟩) HC.out.hi _⟩
end Go.Proofs.YtgakcdcfblgagaaGreatDoor.Model
