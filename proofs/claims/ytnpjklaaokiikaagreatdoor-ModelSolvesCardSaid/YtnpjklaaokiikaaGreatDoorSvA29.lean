/-
  What the theorem of the last text needs of these: MoRefSolves. Conditions: as each theorem states.
-/
import Derived.Test.YtnpjklaaokiikaaGreatDoorSvA1
import Derived.Test.YtnpjklaaokiikaaGreatDoorSvA24
import Derived.Test.YtnpjklaaokiikaaGreatDoorSvA27
set_option maxRecDepth 100000
set_option maxHeartbeats 25600000
namespace Go.Proofs.YtnpjklaaokiikaaGreatDoor.Model
open Go.RowKit Num Ident Semver
open Range (Rng noRng RV KeepS LtB LenOk goodR wt)
open KR (KRow AtV)

theorem firstG_some {α β:Type} (f:Nat→α→Option β):∀ (l:List α) (m:Nat) (q:Nat × β),firstG f m l=some q→∃ j a,f j a=some q.2
 | [],_,_,h=>by cases h
 | a :: l,m,q,h=>by
  rw [firstG] at h
  split at h
  ·next b hb=>injection h with h; subst h; exact ⟨m,a,hb⟩
  ·exact firstG_some f l (m+1) q h
theorem toO_ne {e d:Int} (h:toO e=some d):d≠0:=by
 unfold toO at h
 split at h
 ·cases h
 ·next h0=>injection h with h; rw [← h]; exact h0
theorem roots_zero {l:List PDep}:(out2 (rootsF l)).2=0→rootsF l=none:=fun h=>by
 cases hq:rootsF l with
 | none=>rfl
 | some q =>
  obtain ⟨j,a,hj⟩:=firstG_some _ _ _ _ hq
  rw [hq] at h; exact absurd h (toO_ne hj)
theorem pins_zero {l:List PPin}:(out2 (pinsF l)).2=0→pinsF l=none:=fun h=>by
 cases hq:pinsF l with
 | none=>rfl
 | some q =>
  obtain ⟨j,a,hj⟩:=firstG_some _ _ _ _ hq
  rw [hq] at h; exact absurd h (toO_ne hj)
theorem rel_ne {pn:List UInt8} {l:List PRel} {k:Nat} {r:PRel} {q:Int × Int} (h:relF pn l k r=some q):q.2≠0:=by
 unfold relF at h
 split at h
 ·injection h with h; subst h; decide
 ·split at h
  ·injection h with h; subst h; decide
  ·obtain ⟨y,hy,rfl⟩:=Option.map_eq_some_iff.1 h
   obtain ⟨j,a,hj⟩:=firstG_some _ _ _ _ hy
   exact toO_ne hj
theorem pack_ne {x:List PPack} {k:Nat} {p:PPack} {q:Int × Int × Int} (h:packF x k p=some q):q.2.2≠0:=by
 unfold packF at h
 split at h
 ·injection h with h; subst h; decide
 ·split at h
  ·injection h with h; subst h; decide
  ·obtain ⟨y,hy,rfl⟩:=Option.map_eq_some_iff.1 h
   obtain ⟨j,a,hj⟩:=firstG_some _ _ _ _ hy
   exact rel_ne hj
theorem check_zero {x:List PPack}:(out4 (checkF x)).2.2.2=0→checkF x=none:=fun h=>by
 cases hq:checkF x with
 | none=>rfl
 | some q =>
  rw [hq] at h
  have h:q.2.2.2=0:=h
  unfold checkF at hq
  split at hq
  ·injection hq with hq; subst hq; cases h
  ·obtain ⟨y,hy,rfl⟩:=Option.map_eq_some_iff.1 hq
   obtain ⟨j,a,hj⟩:=firstG_some _ _ _ _ hy
   exact absurd h (pack_ne hj)
theorem solves_err {x:List PPack} {l:List PDep} {s:List PPin} (h:¬ ((out4 (checkF x)).2.2.2=0∧(out2 (rootsF l)).2=0∧(out2 (pinsF s)).2=0)):solvesB x l s=false:=by
 rw [← Bool.not_eq_true]
 intro g
 unfold solvesB at g
 simp only [Bool.and_eq_true,Option.isNone_iff_eq_none] at g
 apply h
 rw [g.1,g.2.1,g.2.2.1]; exact ⟨rfl,rfl,rfl⟩
theorem solves_eq {x:List PPack} {l:List PDep} {s:List PPin} (h1:(out4 (checkF x)).2.2.2=0) (h2:(out2 (rootsF l)).2=0) (h3:(out2 (pinsF s)).2=0):solvesB x l s=(risingB s && (l.all (metB s) && s.all (pinOk x s))):=by
 unfold solvesB
 rw [check_zero h1,roots_zero h2,pins_zero h3]; rfl
theorem all_no {α β:Type} [Inhabited α] {l:List α} {g:α→β} {f:β→Bool} {k:Nat} (hk:k<l.length) (h:f (g (l.getD k default))=false):(l.map g).all f=false:=by
 rw [List.all_eq_false]
 exact ⟨_,List.mem_map.2 ⟨_,getD_mem hk,rfl⟩,by rw [h]; decide⟩
theorem all_yes {α β:Type} [Inhabited α] {l:List α} {g:α→β} {f:β→Bool} (h:∀ j,j<l.length→f (g (l.getD j default))=true):(l.map g).all f=true:=by
 rw [List.all_eq_true]
 intro y hy
 obtain ⟨a,ha,rfl⟩:=List.mem_map.1 hy
 obtain ⟨j,hj,rfl⟩:=List.getElem_of_mem ha
 have:=h j hj
 rwa [List.getD_eq_getElem?_getD,List.getElem?_eq_getElem hj] at this
theorem any_no {α β:Type} [Inhabited α] {l:List α} {g:α→β} {f:β→Bool} (h:∀ j,j<l.length→f (g (l.getD j default))=false):(l.map g).any f=false:=by
 rw [List.any_eq_false]
 intro y hy
 obtain ⟨a,ha,rfl⟩:=List.mem_map.1 hy
 obtain ⟨j,hj,rfl⟩:=List.getElem_of_mem ha
 have:=h j hj
 rw [List.getD_eq_getElem?_getD,List.getElem?_eq_getElem hj] at this
 rw [Bool.not_eq_true]; exact this
theorem any_yes {α β:Type} [Inhabited α] {l:List α} {g:α→β} {f:β→Bool} {k:Nat} (hk:k<l.length) (h:f (g (l.getD k default))=true):(l.map g).any f=true:=by
 rw [List.any_eq_true]
 exact ⟨_,List.mem_map.2 ⟨_,getD_mem hk,rfl⟩,h⟩
theorem rising_no {s:List MPin} {k:Nat} (hk:k+1<s.length) (h:(s.getD (k+1) default).name<(s.getD k default).name):risingB (s.map MPin.p)=false :=
 chainB_no (i:=k) (by rw [List.length_map]; exact hk) (by simp only [map_at _ _ hk,map_at _ _ (Nat.lt_of_succ_lt hk)]; exact decide_eq_false (fun g=>g h))
theorem rising_yes {s:List MPin} (h:∀ k,k+1<s.length→¬ (s.getD (k+1) default).name<(s.getD k default).name):risingB (s.map MPin.p)=true :=
 (chainB_iff _ _).2 fun i hi=>by
  rw [List.length_map] at hi
  simp only [map_at _ _ hi,map_at _ _ (Nat.lt_of_succ_lt hi)]; exact decide_eq_true (h i hi)
section
variable {x:List MPack} {s:List MPin} {p:MPin} {r:MRel}
theorem pin_is (h:findRel x p.name p.ver.v=some r):pinOk (x.map MPack.p) (s.map MPin.p) p.p=(!r.yanked && ((r.needs.map MDep.p).all (metB (s.map MPin.p)) && !((r.bans.map MDep.p).any (metB (s.map MPin.p))))):=by
 have e:releaseO (x.map MPack.p) p.name p.ver.v=some r.p:=by rw [findRel_p,h]; rfl
 unfold pinOk
 show (match releaseO (x.map MPack.p) p.name p.ver.v with | none=>false | some r=>_)=_
 rw [e]; rfl
theorem pin_none (h:findRel x p.name p.ver.v=none):pinOk (x.map MPack.p) (s.map MPin.p) p.p=false:=by
 have e:releaseO (x.map MPack.p) p.name p.ver.v=none:=by rw [findRel_p,h]; rfl
 unfold pinOk
 show (match releaseO (x.map MPack.p) p.name p.ver.v with | none=>false | some r=>_)=_
 rw [e]
theorem pin_yanked (h:findRel x p.name p.ver.v=some r) (hy:r.yanked=true):pinOk (x.map MPack.p) (s.map MPin.p) p.p=false:=by rw [pin_is h,hy]; rfl
theorem pin_need (h:findRel x p.name p.ver.v=some r) {k:Nat} (hk:k<r.needs.length) (hm:metB (s.map MPin.p) (r.needs.getD k default).p=false):pinOk (x.map MPack.p) (s.map MPin.p) p.p=false:=by
 rw [pin_is h,all_no hk hm,Bool.false_and,Bool.and_false]
theorem pin_ban (h:findRel x p.name p.ver.v=some r) {k:Nat} (hk:k<r.bans.length) (hm:metB (s.map MPin.p) (r.bans.getD k default).p=true):pinOk (x.map MPack.p) (s.map MPin.p) p.p=false:=by
 rw [pin_is h,any_yes hk hm,Bool.not_true,Bool.and_false,Bool.and_false]
theorem pin_ok (h:findRel x p.name p.ver.v=some r) (hy:r.yanked=false) (h1:(r.needs.map MDep.p).all (metB (s.map MPin.p))=true) (h2:(r.bans.map MDep.p).any (metB (s.map MPin.p))=false):pinOk (x.map MPack.p) (s.map MPin.p) p.p=true:=by
 rw [pin_is h,hy,h1,h2]; rfl
theorem findRel_mem {name:List UInt8} {v:Ver} (h:findRel x name v=some r):∃ q ∈ x,r ∈ q.rels:=by
 unfold findRel at h
 rw [Option.bind_eq_some_iff] at h
 obtain ⟨q,h1,h2⟩:=h
 exact ⟨q,List.mem_of_find?_eq_some h1,List.mem_of_find?_eq_some h2⟩
end
def set8 (W:World) (g:Nat) (u0 u1 u2 u3 u4 u5 u6 u7:Value):World:=((((((((W.setCell ⟨g,0,none⟩ u0).setCell ⟨g,1,none⟩ u1).setCell ⟨g,2,none⟩ u2).setCell ⟨g,3,none⟩ u3).setCell ⟨g,4,none⟩ u4).setCell ⟨g,5,none⟩ u5).setCell ⟨g,6,none⟩ u6).setCell ⟨g,7,none⟩ u7)
theorem set8_below {W:World} {g:Nat} (B:Nat) (hB:B≤g) (u0 u1 u2 u3 u4 u5 u6 u7:Value):Below B W (set8 W g u0 u1 u2 u3 u4 u5 u6 u7):=by
 unfold set8
 exact (((((((((Below.refl B W).setCell (p:=⟨g,0,none⟩) hB _).setCell (p:=⟨g,1,none⟩) hB _).setCell (p:=⟨g,2,none⟩) hB _).setCell (p:=⟨g,3,none⟩) hB _).setCell (p:=⟨g,4,none⟩) hB _).setCell (p:=⟨g,5,none⟩) hB _).setCell (p:=⟨g,6,none⟩) hB _).setCell (p:=⟨g,7,none⟩) hB _)
theorem at8 {f:Nat→Option Value} {u0 u1 u2 u3 u4 u5 u6 u7:Value} (h0:f 0=some u0) (h1:f 1=some u1) (h2:f 2=some u2) (h3:f 3=some u3) (h4:f 4=some u4) (h5:f 5=some u5) (h6:f 6=some u6) (h7:f 7=some u7):∀ i u,[u0,u1,u2,u3,u4,u5,u6,u7][i]?=some u→f i=some u
 | 0,_,hu=>h0.trans hu
 | 1,_,hu=>h1.trans hu
 | 2,_,hu=>h2.trans hu
 | 3,_,hu=>h3.trans hu
 | 4,_,hu=>h4.trans hu
 | 5,_,hu=>h5.trans hu
 | 6,_,hu=>h6.trans hu
 | 7,_,hu=>h7.trans hu
 | i+8,_,hu=>by cases hu
theorem _root_.Go.Proofs.YtnpjklaaokiikaaGreatDoor.KR.AtV.set8 {W:World} {g:Nat} {v0 v1 v2 v3 v4 v5 v6 v7:Value} (h:AtV W g [v0,v1,v2,v3,v4,v5,v6,v7]) (u0 u1 u2 u3 u4 u5 u6 u7:Value):AtV (set8 W g u0 u1 u2 u3 u4 u5 u6 u7) g [u0,u1,u2,u3,u4,u5,u6,u7]:=by
 have h1:=h.lt
 have h2:=h.fr
 have c0:=h.at_ 0 _ rfl
 have c1:=h.at_ 1 _ rfl
 have c2:=h.at_ 2 _ rfl
 have c3:=h.at_ 3 _ rfl
 have c4:=h.at_ 4 _ rfl
 have c5:=h.at_ 5 _ rfl
 have c6:=h.at_ 6 _ rfl
 have c7:=h.at_ 7 _ rfl
 unfold Model.set8
 refine ⟨by simpa using h1,fun o=>by simp [go_sem,h2],at8 ?_ ?_ ?_ ?_ ?_ ?_ ?_ ?_⟩ <;> simp [go_sem,c0,c1,c2,c3,c4,c5,c6,c7]
structure SolAt (w:World) (ib:Nat) (A:Option Addr) (n c:Nat) (W:World):Prop where
 ix:AtV W ib [.slice A n c]
 bel:Below w.heap.size w W
structure SolR (w:World) (ib rb:Nat) (A:Option Addr) (n c:Nat) (L:List Value) (W:World):Prop where
 ix:AtV W ib [.slice A n c]
 rel:AtV W rb L
 bel:Below w.heap.size w W
section
variable {w:World} {ib rb:Nat} {A:Option Addr} {n c:Nat} {L:List Value} {W W':World}
theorem SolAt.kept (h:SolAt w ib A n c W) (hb:Below W.heap.size W W'):SolAt w ib A n c W':=⟨h.ix.kept hb h.ix.lt,h.bel.trans (hb.mono h.bel.size)⟩
theorem SolR.kept (h:SolR w ib rb A n c L W) (hb:Below W.heap.size W W'):SolR w ib rb A n c L W':=⟨h.ix.kept hb h.ix.lt,h.rel.kept hb h.rel.lt,h.bel.trans (hb.mono h.bel.size)⟩
theorem SolR.at (h:SolR w ib rb A n c L W):SolAt w ib A n c W:=⟨h.ix,h.bel⟩
end
theorem refSolves_any (A:Option Addr) (n c:Nat) (x:List MPack) (RA:Option Addr) (rn rc:Nat) (roots:List MDep) (SA:Option Addr) (m sc:Nat) (s:List MPin) (B:Nat) (w:World) (hx:PRow w (LtB B) A n x) (hr:DRow w (LtB B) RA rn roots) (hs:SPRow w (LtB B) SA m s) (hB:B≤w.heap.size) (hn:n≤maxLen) (hrn:rn≤maxLen) (hm:m≤maxLen) (hmx:Modest x) (hmr:∀ d ∈ roots,d.name.length≤1000000) (hms:∀ d ∈ s,d.name.length≤1000000) :
  Calls Tryz.prog 9 #[.agg #[.slice A n c],.slice RA rn rc,.slice SA m sc] w fun e w'=>e=.returned (.bool (solvesB (x.map MPack.p) (roots.map MDep.p) (s.map MPin.p)))∧Below w.heap.size w w':=by
 have HX:=Lib.hid hx
 have HRT:=Lib.hid hr
 have HSP:=Lib.hid hs
 have HLR:=Lib.hid hr.row.1
 have HL:=Lib.hid hs.row.1
 have hnn:rn≤9223372036854775807:=hrn
 have hmm:m≤9223372036854775807:=hm
 clear hx hr hs
 obtain ⟨W0,hW,hav,hb0⟩:∃ W,W=w.alloc (.cells #[.slice A n c] 24)∧AtV W w.heap.size [.slice A n c]∧Below w.heap.size w W:=⟨_,rfl,AtV.new w _ _,(Below.refl _ _).alloc (Nat.le_refl _) _⟩
 have HS0:Hid (SolAt w w.heap.size A n c W0):=⟨hav,hb0⟩
 clear hav hb0
 obtain ⟨ib,hib⟩:∃ ib,w.heap.size=ib:=⟨_,rfl⟩
 go_enter Tryz.func9,Tryz.ntmps9
 go_upto_region 1 with (fail)
 rw [← hW]
 clear hW
 have HIE:=Lib.hid hib
 rw [hib] at HS0
 clear hib
 have i0:=HS0.out.ix.at_ 0 _ rfl
 go_wp2_with fail
 refine (refCheck_any A n c x B W0 (HX.out.keep (KeepS.of_below (S:=LtB B) HS0.out.bel)) (Nat.le_trans hB HS0.out.bel.size) hn hmx).mono ?_
 rintro e W1 ⟨rfl,hb1⟩
 have HS1:=Lib.hid (HS0.out.kept hb1)
 clear hb1 i0
 unfold checkV
 obtain ⟨q,hq⟩:∃ q,out4 (checkF (x.map MPack.p))=q:=⟨_,rfl⟩
 have HQ:=Lib.hid hq
 rw [hq]
 clear hq
 obtain ⟨q1,q2,q3,e1⟩:=q
 go_upto_region 2 with (fail)
 have HS2:Hid (SolAt w ib A n c (W1.alloc (.cells #[.int .i64 q1,.int .i64 q2,.int .i64 q3] 42))):=HS1.out.kept ((Below.refl _ _).alloc (Nat.le_refl _) _)
 generalize W1.alloc (.cells #[.int .i64 q1,.int .i64 q2,.int .i64 q3] 42)=W2 at HS2 ⊢
 generalize W1.heap.size=wh
 clear HS0 HS1
 go_wp2_with fail
 refine (refRoots_any RA rn rc roots B W2 (HRT.out.keep (KeepS.of_below (S:=LtB B) HS2.out.bel)) (Nat.le_trans hB HS2.out.bel.size) hrn hmr).mono ?_
 rintro e W3 ⟨rfl,hb3⟩
 have HS3:=Lib.hid (HS2.out.kept hb3)
 clear hb3 HS2
 unfold out2V
 obtain ⟨q,hq⟩:∃ q,out2 (rootsF (roots.map MDep.p))=q:=⟨_,rfl⟩
 have HQ2:=Lib.hid hq
 rw [hq]
 clear hq
 obtain ⟨q4,e2⟩:=q
 go_wp2_with fail
 refine (refPins_any SA m sc s B W3 (HSP.out.keep (KeepS.of_below (S:=LtB B) HS3.out.bel)) (Nat.le_trans hB HS3.out.bel.size) hm hms).mono ?_
 rintro e W4 ⟨rfl,hb4⟩
 have HS4:=Lib.hid (HS3.out.kept hb4)
 clear hb4 HS3
 unfold out2V
 obtain ⟨q,hq⟩:∃ q,out2 (pinsF (s.map MPin.p))=q:=⟨_,rfl⟩
 have HQ3:=Lib.hid hq
 rw [hq]
 clear hq
 obtain ⟨q5,e3⟩:=q
 have HERR:Hid (¬ (e1=0∧e2=0∧e3=0)→solvesB (x.map MPack.p) (roots.map MDep.p) (s.map MPin.p)=false):=fun h=>solves_err (by rw [HQ.out,HQ2.out,HQ3.out]; exact h)
 have HEQ0:Hid (e1=0→e2=0→e3=0→solvesB (x.map MPack.p) (roots.map MDep.p) (s.map MPin.p)=(risingB (s.map MPin.p) && ((roots.map MDep.p).all (metB (s.map MPin.p)) && (s.map MPin.p).all (pinOk (x.map MPack.p) (s.map MPin.p))))):=fun h1 h2 h3=>solves_eq (by rw [HQ.out]; exact h1) (by rw [HQ2.out]; exact h2) (by rw [HQ3.out]; exact h3)
 clear HQ HQ2 HQ3
 go_upto_region 4 with (fail)
 have HEND:=Lib.hid HS4.out.bel
 by_cases hz1:e1=0
 case neg =>
  have HF:=Lib.hid (HERR.out (fun h=>hz1 h.1))
  have hb1:(e1 != 0)=true:=by simpa using hz1
  clear hz1
  go_wp2
  go_ret
  exact ⟨by rw [HF.out]; rfl,HEND.out⟩
 have hb1:(e1 != 0)=false:=by rw [hz1]; rfl
 have HZ1:=Lib.hid hz1
 clear hz1
 by_cases hz2:e2=0
 case neg =>
  have HF:=Lib.hid (HERR.out (fun h=>hz2 h.2.1))
  have hb2:(e2 != 0)=true:=by simpa using hz2
  clear hz2
  go_wp2
  go_ret
  exact ⟨by rw [HF.out]; rfl,HEND.out⟩
 have hb2:(e2 != 0)=false:=by rw [hz2]; rfl
 have HZ2:=Lib.hid hz2
 clear hz2
 by_cases hz3:e3=0
 case neg =>
  have HF:=Lib.hid (HERR.out (fun h=>hz3 h.2.2))
  have hb3:(e3 != 0)=true:=by simpa using hz3
  clear hz3
  go_wp2
  go_ret
  exact ⟨by rw [HF.out]; rfl,HEND.out⟩
 have hb3:(e3 != 0)=false:=by rw [hz3]; rfl
 have HEQ:=Lib.hid (HEQ0.out HZ1.out HZ2.out hz3)
 clear hz3 HEQ0 HERR HZ1 HZ2 HEND
 have HRI:Hid (risingB (s.map MPin.p)=false→solvesB (x.map MPack.p) (roots.map MDep.p) (s.map MPin.p)=false):=fun h=>by rw [HEQ.out,h,Bool.false_and]
 have HMR:Hid ((roots.map MDep.p).all (metB (s.map MPin.p))=false→solvesB (x.map MPack.p) (roots.map MDep.p) (s.map MPin.p)=false):=fun h=>by rw [HEQ.out,h,Bool.false_and,Bool.and_false]
 have HMP:Hid ((s.map MPin.p).all (pinOk (x.map MPack.p) (s.map MPin.p))=false→solvesB (x.map MPack.p) (roots.map MDep.p) (s.map MPin.p)=false):=fun h=>by rw [HEQ.out,h,Bool.and_false,Bool.and_false]
 have HYES:Hid (risingB (s.map MPin.p)=true→(roots.map MDep.p).all (metB (s.map MPin.p))=true→(s.map MPin.p).all (pinOk (x.map MPack.p) (s.map MPin.p))=true→solvesB (x.map MPack.p) (roots.map MDep.p) (s.map MPin.p)=true):=fun h1 h2 h3=>by rw [HEQ.out,h1,h2,h3]; rfl
 clear HEQ
 go_wp2
 clear hb1 hb2 hb3
 go_loopw [13] (fun y W=>∃ i:Nat,Hid (i+1≤m∨i=0)∧y=.int .i64 ((i+1:Nat):Int)∧Hid (∀ j,j<i→¬ (s.getD (j+1) default).name<(s.getD j default).name)∧Hid (SolAt w ib A n c W)) (fun y _=>m+1 - (intOf y).toNat)
 case atStart=>exact ⟨0,Lib.hid (.inr rfl),by go_num,(fun j hj=>by omega),HS4.out⟩
 case round =>
  rename World=>wi
  obtain ⟨i,hi,rfl,HDI,HSI⟩:=hrel
  by_cases hlt:i+1<m
  ·have hrow:=HSP.out.keep (KeepS.of_below (S:=LtB B) HSI.out.bel)
   have HGN:Hid (¬ (s.getD (i+1) default).name<(s.getD i default).name→∀ j,j<i+1→¬ (s.getD (j+1) default).name<(s.getD j default).name):=fun h j hj=>by
    rcases Nat.lt_or_ge j i with h1 | h1
    ·exact HDI.out j h1
    ·obtain rfl:j=i:=by omega
     exact h
   have HBN:Hid ((s.getD (i+1) default).name<(s.getD i default).name→solvesB (x.map MPack.p) (roots.map MDep.p) (s.map MPin.p)=false):=fun h=>HRI.out (rising_no (by rw [HL.out]; exact hlt) h)
   obtain ⟨b,o,rfl,_,hb,c0,_⟩:=hrow.cells hlt
   obtain ⟨b2,o2,e2,_,_,d0,_⟩:=hrow.cells (show i<m by omega)
   injection e2 with e3
   injection e3 with e3 e4
   subst e3
   subst e4
   obtain ⟨p,hp⟩:∃ p,s.getD (i+1) default=p:=⟨_,rfl⟩
   obtain ⟨q,hq⟩:∃ q,s.getD i default=q:=⟨_,rfl⟩
   rw [hp] at c0 HBN HGN
   rw [hq] at d0 HBN HGN
   clear hp hq hrow
   have him:¬ m≤i+1:=by omega
   have him2:¬ m≤i:=by omega
   have hib2:=less_text p.name q.name
   have H0:Hid (Below wi.heap.size wi wi.drew):=(Below.refl _ _).drew
   by_cases hlq:p.name<q.name
   ·have HF:=Lib.hid (HBN.out hlq)
    have hless:Op.bytesLess (Ident.mk p.name).toList (Ident.mk q.name).toList=true:=by rw [hib2]; exact decide_eq_true hlq
    clear hlq hib2
    go_wp2
    refine wp_region_held_drew (S:=fun w'=>Below wi.heap.size wi w') (by kernel_rfl) H0.out (fun hHeld=>?_)
    generalize wi.drew=w2 at H0 hHeld ⊢
    refine tk 0 rfl (.slice (some ⟨b,o,none⟩) m sc) ?_
    refine tk 1 rfl (.int .i64 ((i+1:Nat):Int)) ?_
    refine tk 2 rfl (.pointer (some ⟨b,o+(i+1) * 6,none⟩)) ?_ (hv:=fun w' hS'=>by (have z0:¬ ((i:Int)+1<0):=(by omega)); go_simp)
    refine tk 3 rfl (.pointer (some ⟨b,o+(i+1) * 6,none⟩)) ?_
    refine tk 4 rfl (.string (Ident.mk p.name)) ?_ (hv:=fun w' hS'=>by (have z0:=(hS'.cell (p:=⟨b,o+(i+1) * 6,none⟩) hb).trans c0); go_simp)
    refine tk 5 rfl (.slice (some ⟨b,o,none⟩) m sc) ?_
    refine tk 6 rfl (.int .i64 ((i+1:Nat):Int)) ?_
    refine tk 7 rfl (.int .i64 i) ?_ (hv:=fun w' hS'=>by (have z0:(((i+1:Nat):Int) - 1)=(i:Int):=(by omega)); (have z2:IntKind.i64.wrap (i:Int)=(i:Int):=(by rw [IntKind.wrap_i64] <;> omega)); go_simp)
    refine tk 8 rfl (.pointer (some ⟨b,o+i * 6,none⟩)) ?_
    refine tk 9 rfl (.pointer (some ⟨b,o+i * 6,none⟩)) ?_
    refine tk 10 rfl (.string (Ident.mk q.name)) ?_ (hv:=fun w' hS'=>by (have z0:=(hS'.cell (p:=⟨b,o+i * 6,none⟩) hb).trans d0); go_simp)
    refine tk 11 rfl (.bool true) ?_ (hv:=fun w' hS'=>by (have z0:=hless); go_simp)
    refine wpAnyH_done (by kernel_rfl) ?_ _
    have HE:=Lib.hid (HSI.out.bel.trans (H0.out.mono HSI.out.bel.size))
    clear hHeld c0 d0
    go_wp2
    go_ret
    exact ⟨by rw [HF.out]; rfl,HE.out⟩
   ·have HG:=Lib.hid (HGN.out hlq)
    have hless:Op.bytesLess (Ident.mk p.name).toList (Ident.mk q.name).toList=false:=by rw [hib2]; exact decide_eq_false hlq
    clear hlq hib2
    go_wp2
    refine wp_region_held_drew (S:=fun w'=>Below wi.heap.size wi w') (by kernel_rfl) H0.out (fun hHeld=>?_)
    generalize wi.drew=w2 at H0 hHeld ⊢
    refine tk 0 rfl (.slice (some ⟨b,o,none⟩) m sc) ?_
    refine tk 1 rfl (.int .i64 ((i+1:Nat):Int)) ?_
    refine tk 2 rfl (.pointer (some ⟨b,o+(i+1) * 6,none⟩)) ?_ (hv:=fun w' hS'=>by (have z0:¬ ((i:Int)+1<0):=(by omega)); go_simp)
    refine tk 3 rfl (.pointer (some ⟨b,o+(i+1) * 6,none⟩)) ?_
    refine tk 4 rfl (.string (Ident.mk p.name)) ?_ (hv:=fun w' hS'=>by (have z0:=(hS'.cell (p:=⟨b,o+(i+1) * 6,none⟩) hb).trans c0); go_simp)
    refine tk 5 rfl (.slice (some ⟨b,o,none⟩) m sc) ?_
    refine tk 6 rfl (.int .i64 ((i+1:Nat):Int)) ?_
    refine tk 7 rfl (.int .i64 i) ?_ (hv:=fun w' hS'=>by (have z0:(((i+1:Nat):Int) - 1)=(i:Int):=(by omega)); (have z2:IntKind.i64.wrap (i:Int)=(i:Int):=(by rw [IntKind.wrap_i64] <;> omega)); go_simp)
    refine tk 8 rfl (.pointer (some ⟨b,o+i * 6,none⟩)) ?_
    refine tk 9 rfl (.pointer (some ⟨b,o+i * 6,none⟩)) ?_
    refine tk 10 rfl (.string (Ident.mk q.name)) ?_ (hv:=fun w' hS'=>by (have z0:=(hS'.cell (p:=⟨b,o+i * 6,none⟩) hb).trans d0); go_simp)
    refine tk 11 rfl (.bool false) ?_ (hv:=fun w' hS'=>by (have z0:=hless); go_simp)
    refine wpAnyH_done (by kernel_rfl) ?_ _
    have HSN:=Lib.hid (HSI.out.kept H0.out)
    clear hHeld c0 d0
    go_wp2
    exact ⟨⟨i+1,Lib.hid (.inl (by omega)),by go_num,HG.out,HSN.out⟩,by simp only [intOf]; omega⟩
  ·have HRY:Hid (risingB (s.map MPin.p)=true):=rising_yes (fun j hj=>HDI.out j (by have:=hi.out; rw [HL.out] at hj; omega))
   have HS5:=Lib.hid HSI.out
   clear HDI HRI HSI HS4
   go_wp2
   generalize ((i+1:Nat):Int)=v13
   go_loopw [14] (fun y W=>∃ i:Nat,i≤rn∧y=.int .i64 i∧Hid (∀ j,j<i→metB (s.map MPin.p) (roots.getD j default).p=true)∧Hid (SolAt w ib A n c W)) (fun y _=>rn - (intOf y).toNat)
   case atStart=>exact ⟨0,Nat.zero_le _,rfl,(fun j hj=>by omega),HS5.out⟩
   case round =>
    rename World=>wi
    obtain ⟨i,hi,rfl,HDI,HSI⟩:=hrel
    by_cases hlt:i<rn
    ·have hrow:=HRT.out.keep (KeepS.of_below (S:=LtB B) HSI.out.bel)
     have HDO:Hid (DepOk wi (LtB B) (roots.getD i default)):=hrow.ok _ (getD_mem (by rw [HLR.out]; exact hlt))
     have HBN:Hid (metB (s.map MPin.p) (roots.getD i default).p=false→solvesB (x.map MPack.p) (roots.map MDep.p) (s.map MPin.p)=false):=fun h=>HMR.out (all_no (by rw [HLR.out]; exact hlt) h)
     have HGN:Hid (metB (s.map MPin.p) (roots.getD i default).p=true→∀ j,j<i+1→metB (s.map MPin.p) (roots.getD j default).p=true):=fun h j hj=>by
      rcases Nat.lt_or_ge j i with h1 | h1
      ·exact HDI.out j h1
      ·obtain rfl:j=i:=by omega
       exact h
     obtain ⟨b,o,rfl,_,hb,d0,d1,d2,d3,d4,d5,d6,d7⟩:=hrow.cells hlt
     obtain ⟨d,hd⟩:∃ d,roots.getD i default=d:=⟨_,rfl⟩
     rw [hd] at d0 d1 d2 d3 d4 d5 d6 d7 HDO HBN HGN
     clear hd hrow
     have hin:¬ rn≤i:=by omega
     go_wp2_with fail
     refine (refMet_any d SA m sc s B wi HDO.out (HSP.out.keep (KeepS.of_below (S:=LtB B) HSI.out.bel)) (Nat.le_trans hB HSI.out.bel.size) hm).mono ?_
     rintro e W1 ⟨rfl,hb1⟩
     have HSN:=Lib.hid (HSI.out.kept hb1)
     have HEND:=Lib.hid HSN.out.bel
     clear hb1 d0 d1 d2 d3 d4 d5 d6 d7 hb
     obtain ⟨e,he⟩:∃ e,metB (s.map MPin.p) d.p=e:=⟨_,rfl⟩
     rw [he] at HBN HGN ⊢
     clear he
     cases e
     ·have HF:=Lib.hid (HBN.out rfl)
      go_wp2
      go_ret
      exact ⟨by rw [HF.out]; rfl,HEND.out⟩
     ·have HN:=Lib.hid (HGN.out rfl)
      go_wp2
      exact ⟨⟨i+1,by omega,by go_num,HN.out,HSN.out⟩,by simp [intOf]; omega⟩
    ·obtain rfl:i=rn:=by omega
     have HRM:Hid ((roots.map MDep.p).all (metB (s.map MPin.p))=true):=all_yes (fun j hj=>HDI.out j (by rw [HLR.out] at hj; exact hj))
     have HS6:=Lib.hid HSI.out
     clear HDI HMR HSI HS5
     go_wp2
     go_loopw [15] (fun y W=>∃ i:Nat,i≤m∧y=.int .i64 i∧Hid (∀ j,j<i→pinOk (x.map MPack.p) (s.map MPin.p) (s.getD j default).p=true)∧Hid (SolAt w ib A n c W)) (fun y _=>m - (intOf y).toNat)
     case atStart=>exact ⟨0,Nat.zero_le _,rfl,(fun j hj=>by omega),HS6.out⟩
     case round =>
      rename World=>wi
      obtain ⟨i,hi,rfl,HDI,HSI⟩:=hrel
      by_cases hlt:i<m
      ·have hrow:=HSP.out.keep (KeepS.of_below (S:=LtB B) HSI.out.bel)
       have HPO:Hid (PinOk wi (LtB B) (s.getD i default)):=hrow.ok _ (getD_mem (by rw [HL.out]; exact hlt))
       have HPB:Hid (pinOk (x.map MPack.p) (s.map MPin.p) (s.getD i default).p=false→solvesB (x.map MPack.p) (roots.map MDep.p) (s.map MPin.p)=false):=fun h=>HMP.out (all_no (by rw [HL.out]; exact hlt) h)
       have HNXT:Hid (pinOk (x.map MPack.p) (s.map MPin.p) (s.getD i default).p=true→∀ j,j<i+1→pinOk (x.map MPack.p) (s.map MPin.p) (s.getD j default).p=true):=fun h j hj=>by
        rcases Nat.lt_or_ge j i with h1 | h1
        ·exact HDI.out j h1
        ·obtain rfl:j=i:=by omega
         exact h
       have HB:=Lib.hid HSI.out.bel
       have HIX:=Lib.hid HSI.out.ix
       have hib:=HIX.out.lt
       have i0:=HIX.out.at_ 0 _ rfl
       obtain ⟨b,o,rfl,_,hb,c0,c1,c2,c3,c4,c5⟩:=hrow.cells hlt
       obtain ⟨p,hp⟩:∃ p,s.getD i default=p:=⟨_,rfl⟩
       rw [hp] at c0 c1 c2 c3 c4 c5 HPO HPB HNXT
       clear hp hrow
       have hin:¬ m≤i:=by omega
       have H0:Hid (Below wi.heap.size wi wi.drew):=(Below.refl _ _).drew
       have HBW:Hid (Below w.heap.size w wi.drew):=HB.out.trans (H0.out.mono HB.out.size)
       cases hfr:findRel x p.name p.ver.v with
       | none =>
        have HFR:=Lib.hid hfr
        clear hfr
        go_wp2
        refine wp_region_held_drew (S:=fun w'=>Below wi.heap.size wi w') (by kernel_rfl) H0.out (fun hHeld=>?_)
        generalize wi.drew=w2 at H0 HBW hHeld ⊢
        refine tk 0 rfl (.agg #[.slice A n c]) ?_ (hv:=fun w' hS'=>by (have z0:=(hS'.cell (p:=⟨ib,0,none⟩) hib).trans i0); go_simp)
        refine tk 1 rfl (.slice (some ⟨b,o,none⟩) m sc) ?_
        refine tk 2 rfl (.int .i64 i) ?_
        refine tk 3 rfl (.pointer (some ⟨b,o+i * 6,none⟩)) ?_
        refine tk 4 rfl (.pointer (some ⟨b,o+i * 6,none⟩)) ?_
        refine tk 5 rfl (.string (Ident.mk p.name)) ?_ (hv:=fun w' hS'=>by (have z0:=(hS'.cell (p:=⟨b,o+i * 6,none⟩) hb).trans c0); go_simp)
        refine tk 6 rfl (.slice (some ⟨b,o,none⟩) m sc) ?_
        refine tk 7 rfl (.int .i64 i) ?_
        refine tk 8 rfl (.pointer (some ⟨b,o+i * 6,none⟩)) ?_
        refine tk 9 rfl (.pointer (some ⟨b,o+i * 6+1,none⟩)) ?_
        refine tk 10 rfl (.agg #[p.ver.v.a,p.ver.v.b,p.ver.v.c,.slice p.ver.A p.ver.v.pre.length p.ver.c,.slice p.ver.B p.ver.v.build.length p.ver.d]) ?_ (hv:=fun w' hS'=>by (have z0:=(hS'.cell (p:=⟨b,o+i * 6+1,none⟩) hb).trans c1); (have z1:=(hS'.cell (p:=⟨b,o+i * 6+2,none⟩) hb).trans c2); (have z2:=(hS'.cell (p:=⟨b,o+i * 6+3,none⟩) hb).trans c3); (have z3:=(hS'.cell (p:=⟨b,o+i * 6+4,none⟩) hb).trans c4); (have z4:=(hS'.cell (p:=⟨b,o+i * 6+5,none⟩) hb).trans c5); go_simp)
        refine wpAnyH_ready (rs:=[11,15]) (by kernel_rfl) (by simp) ?_
        refine AllReadyH.cons (nth_ops (i:=11) rfl) (fun K hK=>?_) (AllReadyH.cons (nth_ops (i:=15) rfl) (fun K hK=>?_) AllReadyH.nil)
        ·go_simp
         refine (refRelease_any A n c x p.name p.ver B _ (HX.out.keep (KeepS.of_below (S:=LtB B) HBW.out)) (Nat.le_trans hB HBW.out.size) hn (HPO.out.ver.pre.kept H0.out) (HPO.out.ver.build.kept H0.out) HPO.out.ver.fit.pre HPO.out.ver.fit.build).mono ?_
         rw [HFR.out]
         simp only [relV]
         rintro e W5 ⟨rfl,hb5⟩
         have HH5:Hid (Below wi.heap.size wi W5):=H0.out.trans (hb5.mono H0.out.size)
         refine hK.out _ _ HH5.out (fun hHeld2=>?_)
         clear hK K
         try simp only [Act.put,p1,p2,p3]
         refine tk 12 rfl (.tuple #[.agg #[.int .u64 0,.int .u64 0,.int .u64 0,.slice none 0 0,.slice none 0 0,.bool false,.slice none 0 0,.slice none 0 0],.bool false]) ?_
         refine tk 13 rfl (.agg #[.int .u64 0,.int .u64 0,.int .u64 0,.slice none 0 0,.slice none 0 0,.bool false,.slice none 0 0,.slice none 0 0]) ?_
         refine tk 14 rfl (.bool false) ?_
         refine cl 15 rfl fun K hK=>?_
         go_simp
         have hal:Below W5.heap.size W5 (W5.alloc (.cells #[.int .u64 0,.int .u64 0,.int .u64 0,.slice none 0 0,.slice none 0 0,.bool false,.slice none 0 0,.slice none 0 0] 36)):=(Below.refl _ _).alloc (Nat.le_refl _) _
         have HAL:Hid (Below wi.heap.size wi (W5.alloc (.cells #[.int .u64 0,.int .u64 0,.int .u64 0,.slice none 0 0,.slice none 0 0,.bool false,.slice none 0 0,.slice none 0 0] 36))):=HH5.out.trans (hal.mono HH5.out.size)
         have HRB:Hid (AtV (W5.alloc (.cells #[.int .u64 0,.int .u64 0,.int .u64 0,.slice none 0 0,.slice none 0 0,.bool false,.slice none 0 0,.slice none 0 0] 36)) W5.heap.size [.int .u64 0,.int .u64 0,.int .u64 0,.slice none 0 0,.slice none 0 0,.bool false,.slice none 0 0,.slice none 0 0]):=AtV.new W5 _ _
         have HRL:Hid (wi.heap.size≤W5.heap.size):=HH5.out.size
         obtain ⟨rb,hrb⟩:∃ rb,W5.heap.size=rb:=⟨_,rfl⟩
         rw [hrb] at HRB HRL ⊢
         clear hrb hal
         change K _ (W5.alloc (.cells #[.int .u64 0,.int .u64 0,.int .u64 0,.slice none 0 0,.slice none 0 0,.bool false,.slice none 0 0,.slice none 0 0] 36))
         generalize W5.alloc (.cells #[.int .u64 0,.int .u64 0,.int .u64 0,.slice none 0 0,.slice none 0 0,.bool false,.slice none 0 0,.slice none 0 0] 36)=wa at HAL HRB ⊢
         refine hK.out _ _ HAL.out (fun hHeld3=>?_)
         clear hK K
         try simp only [Act.put,p1,p2,p3]
         refine cl 16 rfl fun K hK=>?_
         have hra:=HRB.out.lt
         have hrf:=HRB.out.fr
         have y0:=HRB.out.at_ 0 _ rfl
         have y1:=HRB.out.at_ 1 _ rfl
         have y2:=HRB.out.at_ 2 _ rfl
         have y3:=HRB.out.at_ 3 _ rfl
         have y4:=HRB.out.at_ 4 _ rfl
         have y5:=HRB.out.at_ 5 _ rfl
         have y6:=HRB.out.at_ 6 _ rfl
         have y7:=HRB.out.at_ 7 _ rfl
         go_simp
         have HR8:Hid (AtV (set8 wa rb (.int .u64 0) (.int .u64 0) (.int .u64 0) (.slice none 0 0) (.slice none 0 0) (.bool false) (.slice none 0 0) (.slice none 0 0)) rb [.int .u64 0,.int .u64 0,.int .u64 0,.slice none 0 0,.slice none 0 0,.bool false,.slice none 0 0,.slice none 0 0]):=HRB.out.set8 _ _ _ _ _ _ _ _
         have HE8:Hid (Below wi.heap.size wi (set8 wa rb (.int .u64 0) (.int .u64 0) (.int .u64 0) (.slice none 0 0) (.slice none 0 0) (.bool false) (.slice none 0 0) (.slice none 0 0))):=HAL.out.trans ((set8_below rb (Nat.le_refl _) _ _ _ _ _ _ _ _).mono HRL.out)
         change K _ (set8 wa rb (.int .u64 0) (.int .u64 0) (.int .u64 0) (.slice none 0 0) (.slice none 0 0) (.bool false) (.slice none 0 0) (.slice none 0 0))
         generalize set8 wa rb (.int .u64 0) (.int .u64 0) (.int .u64 0) (.slice none 0 0) (.slice none 0 0) (.bool false) (.slice none 0 0) (.slice none 0 0)=w8 at HR8 HE8 ⊢
         refine hK.out _ _ HE8.out (fun hHeld4=>?_)
         clear hK K hra hrf y0 y1 y2 y3 y4 y5 y6 y7
         try simp only [Act.put,p1,p2,p3]
         refine tk 17 rfl (.bool false) ?_
         refine wpAnyH_done (by kernel_rfl) ?_ _
         clear c0 c1 c2 c3 c4 c5 i0
         have HEND:=Lib.hid (HB.out.trans (HE8.out.mono HB.out.size))
         have HF:=Lib.hid (HPB.out (pin_none HFR.out))
         go_wp2
         go_ret
         exact ⟨by rw [HF.out]; rfl,HEND.out⟩
        ·go_simp
         have hal:Below w2.heap.size w2 (w2.alloc (.cells #[.int .u64 0,.int .u64 0,.int .u64 0,.slice none 0 0,.slice none 0 0,.bool false,.slice none 0 0,.slice none 0 0] 36)):=(Below.refl _ _).alloc (Nat.le_refl _) _
         have HAL:Hid (Below wi.heap.size wi (w2.alloc (.cells #[.int .u64 0,.int .u64 0,.int .u64 0,.slice none 0 0,.slice none 0 0,.bool false,.slice none 0 0,.slice none 0 0] 36))):=H0.out.trans (hal.mono H0.out.size)
         have HRB:Hid (AtV (w2.alloc (.cells #[.int .u64 0,.int .u64 0,.int .u64 0,.slice none 0 0,.slice none 0 0,.bool false,.slice none 0 0,.slice none 0 0] 36)) w2.heap.size [.int .u64 0,.int .u64 0,.int .u64 0,.slice none 0 0,.slice none 0 0,.bool false,.slice none 0 0,.slice none 0 0]):=AtV.new w2 _ _
         have HRL:Hid (wi.heap.size≤w2.heap.size):=H0.out.size
         obtain ⟨rb,hrb⟩:∃ rb,w2.heap.size=rb:=⟨_,rfl⟩
         rw [hrb] at HRB HRL ⊢
         clear hrb hal
         change K _ (w2.alloc (.cells #[.int .u64 0,.int .u64 0,.int .u64 0,.slice none 0 0,.slice none 0 0,.bool false,.slice none 0 0,.slice none 0 0] 36))
         generalize w2.alloc (.cells #[.int .u64 0,.int .u64 0,.int .u64 0,.slice none 0 0,.slice none 0 0,.bool false,.slice none 0 0,.slice none 0 0] 36)=wa at HAL HRB ⊢
         refine hK.out _ _ HAL.out (fun hHeld3=>?_)
         clear hK K
         try simp only [Act.put,p1,p2,p3]
         refine cl 11 rfl fun K hK=>?_
         have HBW2:=Lib.hid (HB.out.trans (HAL.out.mono HB.out.size))
         go_simp
         refine (refRelease_any A n c x p.name p.ver B _ (HX.out.keep (KeepS.of_below (S:=LtB B) HBW2.out)) (Nat.le_trans hB HBW2.out.size) hn (HPO.out.ver.pre.kept HAL.out) (HPO.out.ver.build.kept HAL.out) HPO.out.ver.fit.pre HPO.out.ver.fit.build).mono ?_
         rw [HFR.out]
         simp only [relV]
         rintro e W5 ⟨rfl,hb5⟩
         have HH5:Hid (Below wi.heap.size wi W5):=HAL.out.trans (hb5.mono HAL.out.size)
         have HRC:=Lib.hid (HRB.out.kept hb5 HRB.out.lt)
         refine hK.out _ _ HH5.out (fun hHeld2=>?_)
         clear hK K
         try simp only [Act.put,p1,p2,p3]
         refine tk 12 rfl (.tuple #[.agg #[.int .u64 0,.int .u64 0,.int .u64 0,.slice none 0 0,.slice none 0 0,.bool false,.slice none 0 0,.slice none 0 0],.bool false]) ?_
         refine tk 13 rfl (.agg #[.int .u64 0,.int .u64 0,.int .u64 0,.slice none 0 0,.slice none 0 0,.bool false,.slice none 0 0,.slice none 0 0]) ?_
         refine tk 14 rfl (.bool false) ?_
         refine cl 16 rfl fun K hK=>?_
         have hra:=HRC.out.lt
         have hrf:=HRC.out.fr
         have y0:=HRC.out.at_ 0 _ rfl
         have y1:=HRC.out.at_ 1 _ rfl
         have y2:=HRC.out.at_ 2 _ rfl
         have y3:=HRC.out.at_ 3 _ rfl
         have y4:=HRC.out.at_ 4 _ rfl
         have y5:=HRC.out.at_ 5 _ rfl
         have y6:=HRC.out.at_ 6 _ rfl
         have y7:=HRC.out.at_ 7 _ rfl
         go_simp
         have HR8:Hid (AtV (set8 W5 rb (.int .u64 0) (.int .u64 0) (.int .u64 0) (.slice none 0 0) (.slice none 0 0) (.bool false) (.slice none 0 0) (.slice none 0 0)) rb [.int .u64 0,.int .u64 0,.int .u64 0,.slice none 0 0,.slice none 0 0,.bool false,.slice none 0 0,.slice none 0 0]):=HRC.out.set8 _ _ _ _ _ _ _ _
         have HE8:Hid (Below wi.heap.size wi (set8 W5 rb (.int .u64 0) (.int .u64 0) (.int .u64 0) (.slice none 0 0) (.slice none 0 0) (.bool false) (.slice none 0 0) (.slice none 0 0))):=HH5.out.trans ((set8_below rb (Nat.le_refl _) _ _ _ _ _ _ _ _).mono HRL.out)
         change K _ (set8 W5 rb (.int .u64 0) (.int .u64 0) (.int .u64 0) (.slice none 0 0) (.slice none 0 0) (.bool false) (.slice none 0 0) (.slice none 0 0))
         generalize set8 W5 rb (.int .u64 0) (.int .u64 0) (.int .u64 0) (.slice none 0 0) (.slice none 0 0) (.bool false) (.slice none 0 0) (.slice none 0 0)=w8 at HR8 HE8 ⊢
         refine hK.out _ _ HE8.out (fun hHeld4=>?_)
         clear hK K hra hrf y0 y1 y2 y3 y4 y5 y6 y7
         try simp only [Act.put,p1,p2,p3]
         refine tk 17 rfl (.bool false) ?_
         refine wpAnyH_done (by kernel_rfl) ?_ _
         clear c0 c1 c2 c3 c4 c5 i0
         have HEND:=Lib.hid (HB.out.trans (HE8.out.mono HB.out.size))
         have HF:=Lib.hid (HPB.out (pin_none HFR.out))
         go_wp2
         go_ret
         exact ⟨by rw [HF.out]; rfl,HEND.out⟩
       | some r =>
        have HFR:=Lib.hid hfr
        clear hfr
        have HRO:Hid (RelOk w (LtB B) r):=by
         obtain ⟨q,hq1,hq2⟩:=findRel_mem HFR.out
         exact ((HX.out.ok q hq1).rels.ok r hq2)
        have HRN:Hid (r.needs.length≤maxLen):=Nat.le_trans HRO.out.nc.1 HRO.out.nc.2
        have HRR:Hid (r.bans.length≤maxLen):=Nat.le_trans HRO.out.bc.1 HRO.out.bc.2
        have hrnl:r.needs.length≤9223372036854775807:=HRN.out
        have hrbl2:r.bans.length≤9223372036854775807:=HRR.out
        go_wp2
        refine wp_region_held_drew (S:=fun w'=>Below wi.heap.size wi w') (by kernel_rfl) H0.out (fun hHeld=>?_)
        generalize wi.drew=w2 at H0 HBW hHeld ⊢
        refine tk 0 rfl (.agg #[.slice A n c]) ?_ (hv:=fun w' hS'=>by (have z0:=(hS'.cell (p:=⟨ib,0,none⟩) hib).trans i0); go_simp)
        refine tk 1 rfl (.slice (some ⟨b,o,none⟩) m sc) ?_
        refine tk 2 rfl (.int .i64 i) ?_
        refine tk 3 rfl (.pointer (some ⟨b,o+i * 6,none⟩)) ?_
        refine tk 4 rfl (.pointer (some ⟨b,o+i * 6,none⟩)) ?_
        refine tk 5 rfl (.string (Ident.mk p.name)) ?_ (hv:=fun w' hS'=>by (have z0:=(hS'.cell (p:=⟨b,o+i * 6,none⟩) hb).trans c0); go_simp)
        refine tk 6 rfl (.slice (some ⟨b,o,none⟩) m sc) ?_
        refine tk 7 rfl (.int .i64 i) ?_
        refine tk 8 rfl (.pointer (some ⟨b,o+i * 6,none⟩)) ?_
        refine tk 9 rfl (.pointer (some ⟨b,o+i * 6+1,none⟩)) ?_
        refine tk 10 rfl (.agg #[p.ver.v.a,p.ver.v.b,p.ver.v.c,.slice p.ver.A p.ver.v.pre.length p.ver.c,.slice p.ver.B p.ver.v.build.length p.ver.d]) ?_ (hv:=fun w' hS'=>by (have z0:=(hS'.cell (p:=⟨b,o+i * 6+1,none⟩) hb).trans c1); (have z1:=(hS'.cell (p:=⟨b,o+i * 6+2,none⟩) hb).trans c2); (have z2:=(hS'.cell (p:=⟨b,o+i * 6+3,none⟩) hb).trans c3); (have z3:=(hS'.cell (p:=⟨b,o+i * 6+4,none⟩) hb).trans c4); (have z4:=(hS'.cell (p:=⟨b,o+i * 6+5,none⟩) hb).trans c5); go_simp)
        refine wpAnyH_ready (rs:=[11,15]) (by kernel_rfl) (by simp) ?_
        refine AllReadyH.cons (nth_ops (i:=11) rfl) (fun K hK=>?_) (AllReadyH.cons (nth_ops (i:=15) rfl) (fun K hK=>?_) AllReadyH.nil)
        ·go_simp
         refine (refRelease_any A n c x p.name p.ver B _ (HX.out.keep (KeepS.of_below (S:=LtB B) HBW.out)) (Nat.le_trans hB HBW.out.size) hn (HPO.out.ver.pre.kept H0.out) (HPO.out.ver.build.kept H0.out) HPO.out.ver.fit.pre HPO.out.ver.fit.build).mono ?_
         rw [HFR.out]
         simp only [relV,MRel.agg]
         rintro e W5 ⟨rfl,hb5⟩
         have HH5:Hid (Below wi.heap.size wi W5):=H0.out.trans (hb5.mono H0.out.size)
         refine hK.out _ _ HH5.out (fun hHeld2=>?_)
         clear hK K
         try simp only [Act.put,p1,p2,p3]
         refine tk 12 rfl (.tuple #[.agg #[r.ver.v.a,r.ver.v.b,r.ver.v.c,.slice r.ver.A r.ver.v.pre.length r.ver.c,.slice r.ver.B r.ver.v.build.length r.ver.d,.bool r.yanked,.slice r.N r.needs.length r.nc,.slice r.B r.bans.length r.bc],.bool true]) ?_
         refine tk 13 rfl (.agg #[r.ver.v.a,r.ver.v.b,r.ver.v.c,.slice r.ver.A r.ver.v.pre.length r.ver.c,.slice r.ver.B r.ver.v.build.length r.ver.d,.bool r.yanked,.slice r.N r.needs.length r.nc,.slice r.B r.bans.length r.bc]) ?_
         refine tk 14 rfl (.bool true) ?_
         refine cl 15 rfl fun K hK=>?_
         go_simp
         have hal:Below W5.heap.size W5 (W5.alloc (.cells #[.int .u64 0,.int .u64 0,.int .u64 0,.slice none 0 0,.slice none 0 0,.bool false,.slice none 0 0,.slice none 0 0] 36)):=(Below.refl _ _).alloc (Nat.le_refl _) _
         have HAL:Hid (Below wi.heap.size wi (W5.alloc (.cells #[.int .u64 0,.int .u64 0,.int .u64 0,.slice none 0 0,.slice none 0 0,.bool false,.slice none 0 0,.slice none 0 0] 36))):=HH5.out.trans (hal.mono HH5.out.size)
         have HRB:Hid (AtV (W5.alloc (.cells #[.int .u64 0,.int .u64 0,.int .u64 0,.slice none 0 0,.slice none 0 0,.bool false,.slice none 0 0,.slice none 0 0] 36)) W5.heap.size [.int .u64 0,.int .u64 0,.int .u64 0,.slice none 0 0,.slice none 0 0,.bool false,.slice none 0 0,.slice none 0 0]):=AtV.new W5 _ _
         have HRL:Hid (wi.heap.size≤W5.heap.size):=HH5.out.size
         obtain ⟨rb,hrb⟩:∃ rb,W5.heap.size=rb:=⟨_,rfl⟩
         rw [hrb] at HRB HRL ⊢
         clear hrb hal
         change K _ (W5.alloc (.cells #[.int .u64 0,.int .u64 0,.int .u64 0,.slice none 0 0,.slice none 0 0,.bool false,.slice none 0 0,.slice none 0 0] 36))
         generalize W5.alloc (.cells #[.int .u64 0,.int .u64 0,.int .u64 0,.slice none 0 0,.slice none 0 0,.bool false,.slice none 0 0,.slice none 0 0] 36)=wa at HAL HRB ⊢
         refine hK.out _ _ HAL.out (fun hHeld3=>?_)
         clear hK K
         try simp only [Act.put,p1,p2,p3]
         refine cl 16 rfl fun K hK=>?_
         have hra:=HRB.out.lt
         have hrf:=HRB.out.fr
         have y0:=HRB.out.at_ 0 _ rfl
         have y1:=HRB.out.at_ 1 _ rfl
         have y2:=HRB.out.at_ 2 _ rfl
         have y3:=HRB.out.at_ 3 _ rfl
         have y4:=HRB.out.at_ 4 _ rfl
         have y5:=HRB.out.at_ 5 _ rfl
         have y6:=HRB.out.at_ 6 _ rfl
         have y7:=HRB.out.at_ 7 _ rfl
         go_simp
         have HR8:Hid (AtV (set8 wa rb r.ver.v.a r.ver.v.b r.ver.v.c (.slice r.ver.A r.ver.v.pre.length r.ver.c) (.slice r.ver.B r.ver.v.build.length r.ver.d) (.bool r.yanked) (.slice r.N r.needs.length r.nc) (.slice r.B r.bans.length r.bc)) rb [.int .u64 r.ver.v.a,.int .u64 r.ver.v.b,.int .u64 r.ver.v.c,.slice r.ver.A r.ver.v.pre.length r.ver.c,.slice r.ver.B r.ver.v.build.length r.ver.d,.bool r.yanked,.slice r.N r.needs.length r.nc,.slice r.B r.bans.length r.bc]):=HRB.out.set8 _ _ _ _ _ _ _ _
         have HE8:Hid (Below wi.heap.size wi (set8 wa rb r.ver.v.a r.ver.v.b r.ver.v.c (.slice r.ver.A r.ver.v.pre.length r.ver.c) (.slice r.ver.B r.ver.v.build.length r.ver.d) (.bool r.yanked) (.slice r.N r.needs.length r.nc) (.slice r.B r.bans.length r.bc))):=HAL.out.trans ((set8_below rb (Nat.le_refl _) _ _ _ _ _ _ _ _).mono HRL.out)
         change K _ (set8 wa rb r.ver.v.a r.ver.v.b r.ver.v.c (.slice r.ver.A r.ver.v.pre.length r.ver.c) (.slice r.ver.B r.ver.v.build.length r.ver.d) (.bool r.yanked) (.slice r.N r.needs.length r.nc) (.slice r.B r.bans.length r.bc))
         generalize set8 wa rb r.ver.v.a r.ver.v.b r.ver.v.c (.slice r.ver.A r.ver.v.pre.length r.ver.c) (.slice r.ver.B r.ver.v.build.length r.ver.d) (.bool r.yanked) (.slice r.N r.needs.length r.nc) (.slice r.B r.bans.length r.bc)=w8 at HR8 HE8 ⊢
         refine hK.out _ _ HE8.out (fun hHeld4=>?_)
         clear hK K hra hrf y0 y1 y2 y3 y4 y5 y6 y7
         try simp only [Act.put,p1,p2,p3]
         refine tk 17 rfl (.bool true) ?_
         refine wpAnyH_done (by kernel_rfl) ?_ _
         clear c0 c1 c2 c3 c4 c5 i0
         have HS0:Hid (SolR w ib rb A n c [.int .u64 r.ver.v.a,.int .u64 r.ver.v.b,.int .u64 r.ver.v.c,.slice r.ver.A r.ver.v.pre.length r.ver.c,.slice r.ver.B r.ver.v.build.length r.ver.d,.bool r.yanked,.slice r.N r.needs.length r.nc,.slice r.B r.bans.length r.bc] w8):=⟨HIX.out.kept HE8.out HIX.out.lt,HR8.out,HB.out.trans (HE8.out.mono HB.out.size)⟩
         have HEND:=Lib.hid HS0.out.bel
         have hrbl:=HS0.out.rel.lt
         have z1:=HS0.out.rel.at_ 5 _ rfl
         by_cases hyk:r.yanked=true
         ·rw [hyk] at z1
          have HYB:=Lib.hid (HPB.out (pin_yanked HFR.out hyk))
          clear hyk
          have HF:=Lib.hid (HYB.out)
          go_wp2
          go_ret
          exact ⟨by rw [HF.out]; rfl,HEND.out⟩
         ·have hyf:r.yanked=false:=by simpa using hyk
          have HY:=Lib.hid hyf
          rw [hyf] at z1
          clear hyk hyf
          go_wp2
          clear z1 hrbl
          go_loopw [18] (fun y W=>∃ k:Nat,k≤r.needs.length∧y=.int .i64 k∧Hid (∀ j,j<k→metB (s.map MPin.p) (r.needs.getD j default).p=true)∧Hid (SolR w ib rb A n c [.int .u64 r.ver.v.a,.int .u64 r.ver.v.b,.int .u64 r.ver.v.c,.slice r.ver.A r.ver.v.pre.length r.ver.c,.slice r.ver.B r.ver.v.build.length r.ver.d,.bool r.yanked,.slice r.N r.needs.length r.nc,.slice r.B r.bans.length r.bc] W)) (fun y _=>r.needs.length - (intOf y).toNat)
          case atStart=>exact ⟨0,Nat.zero_le _,rfl,(fun j hj=>by omega),HS0.out⟩
          case round =>
           rename World=>wk
           obtain ⟨k,hk,rfl,HDK,HSK⟩:=hrel
           have z2:=HSK.out.rel.at_ 6 _ rfl
           have hrbl:=HSK.out.rel.lt
           by_cases hkl:k<r.needs.length
           ·have hrow:=HRO.out.needs.keep (KeepS.of_below (S:=LtB B) HSK.out.bel)
            have HDO:Hid (DepOk wk (LtB B) (r.needs.getD k default)):=hrow.ok _ (getD_mem hkl)
            have HMB:Hid (metB (s.map MPin.p) (r.needs.getD k default).p=false→solvesB (x.map MPack.p) (roots.map MDep.p) (s.map MPin.p)=false):=fun h=>HPB.out (pin_need HFR.out hkl h)
            have HMG:Hid (metB (s.map MPin.p) (r.needs.getD k default).p=true→∀ j,j<k+1→metB (s.map MPin.p) (r.needs.getD j default).p=true):=fun h j hj=>by
             rcases Nat.lt_or_ge j k with h1 | h1
             ·exact HDK.out j h1
             ·obtain rfl:j=k:=by omega
              exact h
            obtain ⟨g,og,eg,_,hg,d0,d1,d2,d3,d4,d5,d6,d7⟩:=hrow.cells hkl
            rw [eg] at z2
            clear eg hrow
            obtain ⟨d,hd⟩:∃ d,r.needs.getD k default=d:=⟨_,rfl⟩
            rw [hd] at d0 d1 d2 d3 d4 d5 d6 d7 HDO HMB HMG
            clear hd
            have hkn:¬ r.needs.length≤k:=by omega
            have hkm:k<9223372036854775808:=by have h1:=hrnl; omega
            go_wp2_with fail
            refine (refMet_any d (some ⟨b,o,none⟩) m sc s B wk HDO.out (HSP.out.keep (KeepS.of_below (S:=LtB B) HSK.out.bel)) (Nat.le_trans hB HSK.out.bel.size) hm).mono ?_
            rintro e W1 ⟨rfl,hb1⟩
            have HS1:=Lib.hid (HSK.out.kept hb1)
            have HEND:=Lib.hid HS1.out.bel
            clear hb1 d0 d1 d2 d3 d4 d5 d6 d7 z2 hrbl hg
            obtain ⟨e,he⟩:∃ e,metB (s.map MPin.p) d.p=e:=⟨_,rfl⟩
            rw [he] at HMB HMG ⊢
            clear he
            cases e
            ·have HF:=Lib.hid (HMB.out rfl)
             go_wp2
             go_ret
             exact ⟨by rw [HF.out]; rfl,HEND.out⟩
            ·have HN:=Lib.hid (HMG.out rfl)
             go_wp2
             exact ⟨⟨k+1,by omega,by go_num,HN.out,HS1.out⟩,by simp [intOf]; omega⟩
           ·obtain rfl:k=r.needs.length:=by omega
            have HDN:=HDK
            have HS0:=HSK
            clear HDK HSK
            go_wp2
            clear hrbl z2
            go_loopw [19] (fun y W=>∃ k:Nat,k≤r.bans.length∧y=.int .i64 k∧Hid (∀ j,j<k→metB (s.map MPin.p) (r.bans.getD j default).p=false)∧Hid (SolR w ib rb A n c [.int .u64 r.ver.v.a,.int .u64 r.ver.v.b,.int .u64 r.ver.v.c,.slice r.ver.A r.ver.v.pre.length r.ver.c,.slice r.ver.B r.ver.v.build.length r.ver.d,.bool r.yanked,.slice r.N r.needs.length r.nc,.slice r.B r.bans.length r.bc] W)) (fun y _=>r.bans.length - (intOf y).toNat)
            case atStart=>exact ⟨0,Nat.zero_le _,rfl,(fun j hj=>by omega),HS0.out⟩
            case round =>
             rename World=>wk
             obtain ⟨k,hk,rfl,HDK,HSK⟩:=hrel
             have z3:=HSK.out.rel.at_ 7 _ rfl
             have hrbl:=HSK.out.rel.lt
             by_cases hkl:k<r.bans.length
             ·have hrow:=HRO.out.bans.keep (KeepS.of_below (S:=LtB B) HSK.out.bel)
              have HDO:Hid (DepOk wk (LtB B) (r.bans.getD k default)):=hrow.ok _ (getD_mem hkl)
              have HMB:Hid (metB (s.map MPin.p) (r.bans.getD k default).p=true→solvesB (x.map MPack.p) (roots.map MDep.p) (s.map MPin.p)=false):=fun h=>HPB.out (pin_ban HFR.out hkl h)
              have HMG:Hid (metB (s.map MPin.p) (r.bans.getD k default).p=false→∀ j,j<k+1→metB (s.map MPin.p) (r.bans.getD j default).p=false):=fun h j hj=>by
               rcases Nat.lt_or_ge j k with h1 | h1
               ·exact HDK.out j h1
               ·obtain rfl:j=k:=by omega
                exact h
              obtain ⟨g,og,eg,_,hg,d0,d1,d2,d3,d4,d5,d6,d7⟩:=hrow.cells hkl
              rw [eg] at z3
              clear eg hrow
              obtain ⟨d,hd⟩:∃ d,r.bans.getD k default=d:=⟨_,rfl⟩
              rw [hd] at d0 d1 d2 d3 d4 d5 d6 d7 HDO HMB HMG
              clear hd
              have hkn:¬ r.bans.length≤k:=by omega
              have hkm:k<9223372036854775808:=by have h1:=hrbl2; omega
              go_wp2_with fail
              refine (refMet_any d (some ⟨b,o,none⟩) m sc s B wk HDO.out (HSP.out.keep (KeepS.of_below (S:=LtB B) HSK.out.bel)) (Nat.le_trans hB HSK.out.bel.size) hm).mono ?_
              rintro e W1 ⟨rfl,hb1⟩
              have HS1:=Lib.hid (HSK.out.kept hb1)
              have HEND:=Lib.hid HS1.out.bel
              clear hb1 d0 d1 d2 d3 d4 d5 d6 d7 z3 hrbl hg
              obtain ⟨e,he⟩:∃ e,metB (s.map MPin.p) d.p=e:=⟨_,rfl⟩
              rw [he] at HMB HMG ⊢
              clear he
              cases e
              ·have HN:=Lib.hid (HMG.out rfl)
               go_wp2
               exact ⟨⟨k+1,by omega,by go_num,HN.out,HS1.out⟩,by simp [intOf]; omega⟩
              ·have HF:=Lib.hid (HMB.out rfl)
               go_wp2
               go_ret
               exact ⟨by rw [HF.out]; rfl,HEND.out⟩
             ·obtain rfl:k=r.bans.length:=by omega
              have HOK:=Lib.hid (HNXT.out (pin_ok HFR.out HY.out (all_yes HDN.out) (any_no HDK.out)))
              have HAT:=Lib.hid HSK.out.at
              go_wp2
              exact ⟨⟨i+1,by omega,by go_num,HOK.out,HAT.out⟩,by simp [intOf]; omega⟩
        ·go_simp
         have hal:Below w2.heap.size w2 (w2.alloc (.cells #[.int .u64 0,.int .u64 0,.int .u64 0,.slice none 0 0,.slice none 0 0,.bool false,.slice none 0 0,.slice none 0 0] 36)):=(Below.refl _ _).alloc (Nat.le_refl _) _
         have HAL:Hid (Below wi.heap.size wi (w2.alloc (.cells #[.int .u64 0,.int .u64 0,.int .u64 0,.slice none 0 0,.slice none 0 0,.bool false,.slice none 0 0,.slice none 0 0] 36))):=H0.out.trans (hal.mono H0.out.size)
         have HRB:Hid (AtV (w2.alloc (.cells #[.int .u64 0,.int .u64 0,.int .u64 0,.slice none 0 0,.slice none 0 0,.bool false,.slice none 0 0,.slice none 0 0] 36)) w2.heap.size [.int .u64 0,.int .u64 0,.int .u64 0,.slice none 0 0,.slice none 0 0,.bool false,.slice none 0 0,.slice none 0 0]):=AtV.new w2 _ _
         have HRL:Hid (wi.heap.size≤w2.heap.size):=H0.out.size
         obtain ⟨rb,hrb⟩:∃ rb,w2.heap.size=rb:=⟨_,rfl⟩
         rw [hrb] at HRB HRL ⊢
         clear hrb hal
         change K _ (w2.alloc (.cells #[.int .u64 0,.int .u64 0,.int .u64 0,.slice none 0 0,.slice none 0 0,.bool false,.slice none 0 0,.slice none 0 0] 36))
         generalize w2.alloc (.cells #[.int .u64 0,.int .u64 0,.int .u64 0,.slice none 0 0,.slice none 0 0,.bool false,.slice none 0 0,.slice none 0 0] 36)=wa at HAL HRB ⊢
         refine hK.out _ _ HAL.out (fun hHeld3=>?_)
         clear hK K
         try simp only [Act.put,p1,p2,p3]
         refine cl 11 rfl fun K hK=>?_
         have HBW2:=Lib.hid (HB.out.trans (HAL.out.mono HB.out.size))
         go_simp
         refine (refRelease_any A n c x p.name p.ver B _ (HX.out.keep (KeepS.of_below (S:=LtB B) HBW2.out)) (Nat.le_trans hB HBW2.out.size) hn (HPO.out.ver.pre.kept HAL.out) (HPO.out.ver.build.kept HAL.out) HPO.out.ver.fit.pre HPO.out.ver.fit.build).mono ?_
         rw [HFR.out]
         simp only [relV,MRel.agg]
         rintro e W5 ⟨rfl,hb5⟩
         have HH5:Hid (Below wi.heap.size wi W5):=HAL.out.trans (hb5.mono HAL.out.size)
         have HRC:=Lib.hid (HRB.out.kept hb5 HRB.out.lt)
         refine hK.out _ _ HH5.out (fun hHeld2=>?_)
         clear hK K
         try simp only [Act.put,p1,p2,p3]
         refine tk 12 rfl (.tuple #[.agg #[r.ver.v.a,r.ver.v.b,r.ver.v.c,.slice r.ver.A r.ver.v.pre.length r.ver.c,.slice r.ver.B r.ver.v.build.length r.ver.d,.bool r.yanked,.slice r.N r.needs.length r.nc,.slice r.B r.bans.length r.bc],.bool true]) ?_
         refine tk 13 rfl (.agg #[r.ver.v.a,r.ver.v.b,r.ver.v.c,.slice r.ver.A r.ver.v.pre.length r.ver.c,.slice r.ver.B r.ver.v.build.length r.ver.d,.bool r.yanked,.slice r.N r.needs.length r.nc,.slice r.B r.bans.length r.bc]) ?_
         refine tk 14 rfl (.bool true) ?_
         refine cl 16 rfl fun K hK=>?_
         have hra:=HRC.out.lt
         have hrf:=HRC.out.fr
         have y0:=HRC.out.at_ 0 _ rfl
         have y1:=HRC.out.at_ 1 _ rfl
         have y2:=HRC.out.at_ 2 _ rfl
         have y3:=HRC.out.at_ 3 _ rfl
         have y4:=HRC.out.at_ 4 _ rfl
         have y5:=HRC.out.at_ 5 _ rfl
         have y6:=HRC.out.at_ 6 _ rfl
         have y7:=HRC.out.at_ 7 _ rfl
         go_simp
         have HR8:Hid (AtV (set8 W5 rb r.ver.v.a r.ver.v.b r.ver.v.c (.slice r.ver.A r.ver.v.pre.length r.ver.c) (.slice r.ver.B r.ver.v.build.length r.ver.d) (.bool r.yanked) (.slice r.N r.needs.length r.nc) (.slice r.B r.bans.length r.bc)) rb [.int .u64 r.ver.v.a,.int .u64 r.ver.v.b,.int .u64 r.ver.v.c,.slice r.ver.A r.ver.v.pre.length r.ver.c,.slice r.ver.B r.ver.v.build.length r.ver.d,.bool r.yanked,.slice r.N r.needs.length r.nc,.slice r.B r.bans.length r.bc]):=HRC.out.set8 _ _ _ _ _ _ _ _
         have HE8:Hid (Below wi.heap.size wi (set8 W5 rb r.ver.v.a r.ver.v.b r.ver.v.c (.slice r.ver.A r.ver.v.pre.length r.ver.c) (.slice r.ver.B r.ver.v.build.length r.ver.d) (.bool r.yanked) (.slice r.N r.needs.length r.nc) (.slice r.B r.bans.length r.bc))):=HH5.out.trans ((set8_below rb (Nat.le_refl _) _ _ _ _ _ _ _ _).mono HRL.out)
         change K _ (set8 W5 rb r.ver.v.a r.ver.v.b r.ver.v.c (.slice r.ver.A r.ver.v.pre.length r.ver.c) (.slice r.ver.B r.ver.v.build.length r.ver.d) (.bool r.yanked) (.slice r.N r.needs.length r.nc) (.slice r.B r.bans.length r.bc))
         generalize set8 W5 rb r.ver.v.a r.ver.v.b r.ver.v.c (.slice r.ver.A r.ver.v.pre.length r.ver.c) (.slice r.ver.B r.ver.v.build.length r.ver.d) (.bool r.yanked) (.slice r.N r.needs.length r.nc) (.slice r.B r.bans.length r.bc)=w8 at HR8 HE8 ⊢
         refine hK.out _ _ HE8.out (fun hHeld4=>?_)
         clear hK K hra hrf y0 y1 y2 y3 y4 y5 y6 y7
         try simp only [Act.put,p1,p2,p3]
         refine tk 17 rfl (.bool true) ?_
         refine wpAnyH_done (by kernel_rfl) ?_ _
         clear c0 c1 c2 c3 c4 c5 i0
         have HS0:Hid (SolR w ib rb A n c [.int .u64 r.ver.v.a,.int .u64 r.ver.v.b,.int .u64 r.ver.v.c,.slice r.ver.A r.ver.v.pre.length r.ver.c,.slice r.ver.B r.ver.v.build.length r.ver.d,.bool r.yanked,.slice r.N r.needs.length r.nc,.slice r.B r.bans.length r.bc] w8):=⟨HIX.out.kept HE8.out HIX.out.lt,HR8.out,HB.out.trans (HE8.out.mono HB.out.size)⟩
         have HEND:=Lib.hid HS0.out.bel
         have hrbl:=HS0.out.rel.lt
         have z1:=HS0.out.rel.at_ 5 _ rfl
         by_cases hyk:r.yanked=true
         ·rw [hyk] at z1
          have HYB:=Lib.hid (HPB.out (pin_yanked HFR.out hyk))
          clear hyk
          have HF:=Lib.hid (HYB.out)
          go_wp2
          go_ret
          exact ⟨by rw [HF.out]; rfl,HEND.out⟩
         ·have hyf:r.yanked=false:=by simpa using hyk
          have HY:=Lib.hid hyf
          rw [hyf] at z1
          clear hyk hyf
          go_wp2
          clear z1 hrbl
          go_loopw [18] (fun y W=>∃ k:Nat,k≤r.needs.length∧y=.int .i64 k∧Hid (∀ j,j<k→metB (s.map MPin.p) (r.needs.getD j default).p=true)∧Hid (SolR w ib rb A n c [.int .u64 r.ver.v.a,.int .u64 r.ver.v.b,.int .u64 r.ver.v.c,.slice r.ver.A r.ver.v.pre.length r.ver.c,.slice r.ver.B r.ver.v.build.length r.ver.d,.bool r.yanked,.slice r.N r.needs.length r.nc,.slice r.B r.bans.length r.bc] W)) (fun y _=>r.needs.length - (intOf y).toNat)
          case atStart=>exact ⟨0,Nat.zero_le _,rfl,(fun j hj=>by omega),HS0.out⟩
          case round =>
           rename World=>wk
           obtain ⟨k,hk,rfl,HDK,HSK⟩:=hrel
           have z2:=HSK.out.rel.at_ 6 _ rfl
           have hrbl:=HSK.out.rel.lt
           by_cases hkl:k<r.needs.length
           ·have hrow:=HRO.out.needs.keep (KeepS.of_below (S:=LtB B) HSK.out.bel)
            have HDO:Hid (DepOk wk (LtB B) (r.needs.getD k default)):=hrow.ok _ (getD_mem hkl)
            have HMB:Hid (metB (s.map MPin.p) (r.needs.getD k default).p=false→solvesB (x.map MPack.p) (roots.map MDep.p) (s.map MPin.p)=false):=fun h=>HPB.out (pin_need HFR.out hkl h)
            have HMG:Hid (metB (s.map MPin.p) (r.needs.getD k default).p=true→∀ j,j<k+1→metB (s.map MPin.p) (r.needs.getD j default).p=true):=fun h j hj=>by
             rcases Nat.lt_or_ge j k with h1 | h1
             ·exact HDK.out j h1
             ·obtain rfl:j=k:=by omega
              exact h
            obtain ⟨g,og,eg,_,hg,d0,d1,d2,d3,d4,d5,d6,d7⟩:=hrow.cells hkl
            rw [eg] at z2
            clear eg hrow
            obtain ⟨d,hd⟩:∃ d,r.needs.getD k default=d:=⟨_,rfl⟩
            rw [hd] at d0 d1 d2 d3 d4 d5 d6 d7 HDO HMB HMG
            clear hd
            have hkn:¬ r.needs.length≤k:=by omega
            have hkm:k<9223372036854775808:=by have h1:=hrnl; omega
            go_wp2_with fail
            refine (refMet_any d (some ⟨b,o,none⟩) m sc s B wk HDO.out (HSP.out.keep (KeepS.of_below (S:=LtB B) HSK.out.bel)) (Nat.le_trans hB HSK.out.bel.size) hm).mono ?_
            rintro e W1 ⟨rfl,hb1⟩
            have HS1:=Lib.hid (HSK.out.kept hb1)
            have HEND:=Lib.hid HS1.out.bel
            clear hb1 d0 d1 d2 d3 d4 d5 d6 d7 z2 hrbl hg
            obtain ⟨e,he⟩:∃ e,metB (s.map MPin.p) d.p=e:=⟨_,rfl⟩
            rw [he] at HMB HMG ⊢
            clear he
            cases e
            ·have HF:=Lib.hid (HMB.out rfl)
             go_wp2
             go_ret
             exact ⟨by rw [HF.out]; rfl,HEND.out⟩
            ·have HN:=Lib.hid (HMG.out rfl)
             go_wp2
             exact ⟨⟨k+1,by omega,by go_num,HN.out,HS1.out⟩,by simp [intOf]; omega⟩
           ·obtain rfl:k=r.needs.length:=by omega
            have HDN:=HDK
            have HS0:=HSK
            clear HDK HSK
            go_wp2
            clear hrbl z2
            go_loopw [19] (fun y W=>∃ k:Nat,k≤r.bans.length∧y=.int .i64 k∧Hid (∀ j,j<k→metB (s.map MPin.p) (r.bans.getD j default).p=false)∧Hid (SolR w ib rb A n c [.int .u64 r.ver.v.a,.int .u64 r.ver.v.b,.int .u64 r.ver.v.c,.slice r.ver.A r.ver.v.pre.length r.ver.c,.slice r.ver.B r.ver.v.build.length r.ver.d,.bool r.yanked,.slice r.N r.needs.length r.nc,.slice r.B r.bans.length r.bc] W)) (fun y _=>r.bans.length - (intOf y).toNat)
            case atStart=>exact ⟨0,Nat.zero_le _,rfl,(fun j hj=>by omega),HS0.out⟩
            case round =>
             rename World=>wk
             obtain ⟨k,hk,rfl,HDK,HSK⟩:=hrel
             have z3:=HSK.out.rel.at_ 7 _ rfl
             have hrbl:=HSK.out.rel.lt
             by_cases hkl:k<r.bans.length
             ·have hrow:=HRO.out.bans.keep (KeepS.of_below (S:=LtB B) HSK.out.bel)
              have HDO:Hid (DepOk wk (LtB B) (r.bans.getD k default)):=hrow.ok _ (getD_mem hkl)
              have HMB:Hid (metB (s.map MPin.p) (r.bans.getD k default).p=true→solvesB (x.map MPack.p) (roots.map MDep.p) (s.map MPin.p)=false):=fun h=>HPB.out (pin_ban HFR.out hkl h)
              have HMG:Hid (metB (s.map MPin.p) (r.bans.getD k default).p=false→∀ j,j<k+1→metB (s.map MPin.p) (r.bans.getD j default).p=false):=fun h j hj=>by
               rcases Nat.lt_or_ge j k with h1 | h1
               ·exact HDK.out j h1
               ·obtain rfl:j=k:=by omega
                exact h
              obtain ⟨g,og,eg,_,hg,d0,d1,d2,d3,d4,d5,d6,d7⟩:=hrow.cells hkl
              rw [eg] at z3
              clear eg hrow
              obtain ⟨d,hd⟩:∃ d,r.bans.getD k default=d:=⟨_,rfl⟩
              rw [hd] at d0 d1 d2 d3 d4 d5 d6 d7 HDO HMB HMG
              clear hd
              have hkn:¬ r.bans.length≤k:=by omega
              have hkm:k<9223372036854775808:=by have h1:=hrbl2; omega
              go_wp2_with fail
              refine (refMet_any d (some ⟨b,o,none⟩) m sc s B wk HDO.out (HSP.out.keep (KeepS.of_below (S:=LtB B) HSK.out.bel)) (Nat.le_trans hB HSK.out.bel.size) hm).mono ?_
              rintro e W1 ⟨rfl,hb1⟩
              have HS1:=Lib.hid (HSK.out.kept hb1)
              have HEND:=Lib.hid HS1.out.bel
              clear hb1 d0 d1 d2 d3 d4 d5 d6 d7 z3 hrbl hg
              obtain ⟨e,he⟩:∃ e,metB (s.map MPin.p) d.p=e:=⟨_,rfl⟩
              rw [he] at HMB HMG ⊢
              clear he
              cases e
              ·have HN:=Lib.hid (HMG.out rfl)
               go_wp2
               exact ⟨⟨k+1,by omega,by go_num,HN.out,HS1.out⟩,by simp [intOf]; omega⟩
              ·have HF:=Lib.hid (HMB.out rfl)
               go_wp2
               go_ret
               exact ⟨by rw [HF.out]; rfl,HEND.out⟩
             ·obtain rfl:k=r.bans.length:=by omega
              have HOK:=Lib.hid (HNXT.out (pin_ok HFR.out HY.out (all_yes HDN.out) (any_no HDK.out)))
              have HAT:=Lib.hid HSK.out.at
              go_wp2
              exact ⟨⟨i+1,by omega,by go_num,HOK.out,HAT.out⟩,by simp [intOf]; omega⟩
      ·obtain rfl:i=m:=by omega
       have HF:=Lib.hid (HYES.out HRY.out HRM.out (all_yes (fun j hj=>HDI.out j (by rw [HL.out] at hj; exact hj))))
       have HEND:=Lib.hid HSI.out.bel
       go_wp2
       go_ret
       exact ⟨by rw [HF.out]; rfl,HEND.out⟩
end Go.Proofs.YtnpjklaaokiikaaGreatDoor.Model
