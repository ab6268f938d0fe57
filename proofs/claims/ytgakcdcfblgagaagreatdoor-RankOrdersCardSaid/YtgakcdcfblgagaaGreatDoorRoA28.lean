/-
  What the theorem of the last text needs of these: MoSorted, MoRefSolves, MoBans, MoPinsW, MoFewW, MoSays. Conditions: as each theorem states.
-/
import Derived.Test.YtgakcdcfblgagaaGreatDoorRoA1
import Derived.Test.YtgakcdcfblgagaaGreatDoorRoA3
import Derived.Test.YtgakcdcfblgagaaGreatDoorRoA7
import Derived.Test.YtgakcdcfblgagaaGreatDoorRoA11
import Derived.Test.YtgakcdcfblgagaaGreatDoorRoA24
import Derived.Test.YtgakcdcfblgagaaGreatDoorRoA25
import Derived.Test.YtgakcdcfblgagaaGreatDoorRoA27
set_option maxRecDepth 100000
set_option maxHeartbeats 25600000
namespace Go.Proofs.YtgakcdcfblgagaaGreatDoor.Model
open Go.RowKit Num Ident Semver Fr
open Range (Rng noRng RV KeepS LtB LenOk goodR wt)
open KR (KRow AtV)
open Name (isName)

theorem twoPack (w:World) (x y:MPack):∃ W,W=(w.alloc (.cells #[.string (Ident.mk x.name),.slice x.R x.rels.length x.rc] 48)).alloc (.cells #[.string (Ident.mk y.name),.slice y.R y.rels.length y.rc] 48)∧AtV W w.heap.size [.string (Ident.mk x.name),.slice x.R x.rels.length x.rc]∧AtV W (w.heap.size+1) [.string (Ident.mk y.name),.slice y.R y.rels.length y.rc]∧BelowD w.heap.size w W:=by
 refine ⟨_,rfl,(AtV.new w _ _).kept ((Below.refl _ _).alloc (Nat.le_refl _) _) (by simp),?_,((BelowD.refl _ _).alloc (Nat.le_refl _) _).alloc (by simp) _⟩
 have h:=AtV.new (w.alloc (.cells #[.string (Ident.mk x.name),.slice x.R x.rels.length x.rc] 48)) 48 [.string (Ident.mk y.name),.slice y.R y.rels.length y.rc]
 rwa [size_alloc] at h
theorem namesPack_any (x y:MPack) (w:World):Calls Tryz.prog 45 #[x.agg,y.agg] w fun e w'=>e=.returned (.int .i64 (Lib.compareBytes x.name y.name))∧BelowD w.heap.size w w':=by
 obtain ⟨W0,hW,h1,h2,hb⟩:=twoPack w x y
 have H1:=Lib.hid h1
 have H2:=Lib.hid h2
 have HB:=Lib.hid hb
 clear h1 h2 hb
 obtain ⟨xb,hxb⟩:∃ xb,w.heap.size=xb:=⟨_,rfl⟩
 unfold MPack.agg
 go_enter Tryz.func45,Tryz.ntmps45
 go_upto_region 1 with (fail)
 rw [← hW]
 rw [hxb] at H1 H2
 clear hW hxb
 have x0:=H1.out.at_ 0 _ rfl
 have y0:=H2.out.at_ 0 _ rfl
 go_wp2_with fail
 refine (strcmp_any (Ident.mk x.name) (Ident.mk y.name) _).mono ?_
 rw [mk_list,mk_list]
 rintro e w' ⟨rfl,rfl⟩
 obtain ⟨q,hq⟩:∃ q,Lib.compareBytes x.name y.name=q:=⟨_,rfl⟩
 have HQ:=Lib.hid hq
 rw [hq]
 clear hq
 go_wp2
 go_ret
 exact ⟨by rw [HQ.out]; rfl,HB.out⟩
theorem twoRelease (w:World) (x y:MRel):∃ W,W=(w.alloc (.cells #[x.ver.v.a,x.ver.v.b,x.ver.v.c,.slice x.ver.A x.ver.v.pre.length x.ver.c,.slice x.ver.B x.ver.v.build.length x.ver.d,.bool x.yanked,.slice x.N x.needs.length x.nc,.slice x.B x.bans.length x.bc] 46)).alloc (.cells #[y.ver.v.a,y.ver.v.b,y.ver.v.c,.slice y.ver.A y.ver.v.pre.length y.ver.c,.slice y.ver.B y.ver.v.build.length y.ver.d,.bool y.yanked,.slice y.N y.needs.length y.nc,.slice y.B y.bans.length y.bc] 46)∧AtV W w.heap.size [.int .u64 x.ver.v.a,.int .u64 x.ver.v.b,.int .u64 x.ver.v.c,.slice x.ver.A x.ver.v.pre.length x.ver.c,.slice x.ver.B x.ver.v.build.length x.ver.d,.bool x.yanked,.slice x.N x.needs.length x.nc,.slice x.B x.bans.length x.bc]∧AtV W (w.heap.size+1) [.int .u64 y.ver.v.a,.int .u64 y.ver.v.b,.int .u64 y.ver.v.c,.slice y.ver.A y.ver.v.pre.length y.ver.c,.slice y.ver.B y.ver.v.build.length y.ver.d,.bool y.yanked,.slice y.N y.needs.length y.nc,.slice y.B y.bans.length y.bc]∧BelowD w.heap.size w W:=by
 refine ⟨_,rfl,(AtV.new w _ _).kept ((Below.refl _ _).alloc (Nat.le_refl _) _) (by simp),?_,((BelowD.refl _ _).alloc (Nat.le_refl _) _).alloc (by simp) _⟩
 have h:=AtV.new (w.alloc (.cells #[x.ver.v.a,x.ver.v.b,x.ver.v.c,.slice x.ver.A x.ver.v.pre.length x.ver.c,.slice x.ver.B x.ver.v.build.length x.ver.d,.bool x.yanked,.slice x.N x.needs.length x.nc,.slice x.B x.bans.length x.bc] 46)) 46 [.int .u64 y.ver.v.a,.int .u64 y.ver.v.b,.int .u64 y.ver.v.c,.slice y.ver.A y.ver.v.pre.length y.ver.c,.slice y.ver.B y.ver.v.build.length y.ver.d,.bool y.yanked,.slice y.N y.needs.length y.nc,.slice y.B y.bans.length y.bc]
 rwa [size_alloc] at h
theorem byVersion_any (x y:MRel) (S:Nat→Prop) (w:World) (h1:VerOk w S x.ver) (h2:VerOk w S y.ver):Calls Tryz.prog 49 #[x.agg,y.agg] w fun e w'=>e=.returned (.int .i64 (Prec.fullV x.ver.v y.ver.v))∧BelowD w.heap.size w w':=by
 obtain ⟨W0,hW,a1,a2,hb⟩:=twoRelease w x y
 have H1:=Lib.hid a1
 have H2:=Lib.hid a2
 have HB:=Lib.hid hb
 have HX:=Lib.hid (h1.keep (KeepS.of_below hb.toBelow))
 have HY:=Lib.hid (h2.keep (KeepS.of_below hb.toBelow))
 clear h1 h2 hb a1 a2
 obtain ⟨xb,hxb⟩:∃ xb,w.heap.size=xb:=⟨_,rfl⟩
 unfold MRel.agg
 go_enter Tryz.func49,Tryz.ntmps49
 go_upto_region 1 with (fail)
 rw [← hW]
 rw [hxb] at H1 H2
 clear hW hxb
 have x0:=H1.out.at_ 0 _ rfl
 have x1:=H1.out.at_ 1 _ rfl
 have x2:=H1.out.at_ 2 _ rfl
 have x3:=H1.out.at_ 3 _ rfl
 have x4:=H1.out.at_ 4 _ rfl
 have y0:=H2.out.at_ 0 _ rfl
 have y1:=H2.out.at_ 1 _ rfl
 have y2:=H2.out.at_ 2 _ rfl
 have y3:=H2.out.at_ 3 _ rfl
 have y4:=H2.out.at_ 4 _ rfl
 go_wp2_with fail
 refine (Prec.full_anyD x.ver.v y.ver.v x.ver.A x.ver.B y.ver.A y.ver.B x.ver.c x.ver.d y.ver.c y.ver.d _ HX.out.pre HX.out.build HY.out.pre HY.out.build ⟨HX.out.fit.pre,HX.out.fit.pres⟩ ⟨HX.out.fit.build,HX.out.fit.builds⟩ ⟨HY.out.fit.pre,HY.out.fit.pres⟩ ⟨HY.out.fit.build,HY.out.fit.builds⟩).mono ?_
 rintro e w' ⟨rfl,hb⟩
 have HB2:=Lib.hid (HB.out.trans (hb.mono HB.out.size))
 clear hb x0 x1 x2 x3 x4 y0 y1 y2 y3 y4
 obtain ⟨q,hq⟩:∃ q,Prec.fullV x.ver.v y.ver.v=q:=⟨_,rfl⟩
 have HQ:=Lib.hid hq
 rw [hq]
 clear hq
 go_wp2
 go_ret
 exact ⟨by rw [HQ.out]; rfl,HB2.out⟩
end Go.Proofs.YtgakcdcfblgagaaGreatDoor.Model
namespace Go.Proofs.YtgakcdcfblgagaaGreatDoor.Model
open Go.RowKit Num Ident Semver
open Range (Rng noRng RV KeepS LtB LenOk goodR wt)
open KR (KRow AtV)

structure SolAt (w:World) (ib:Nat) (A:Option Addr) (n c:Nat) (W:World):Prop where
 ix:AtV W ib [.slice A n c]
 bel:Below w.heap.size w W
structure SolR (w:World) (ib rb:Nat) (A:Option Addr) (n c:Nat) (L:List Value) (W:World):Prop where
 ix:AtV W ib [.slice A n c]
 rel:AtV W rb L
 bel:Below w.heap.size w W
section
variable {w:World} {ib rb:Nat} {A:Option Addr} {n c:Nat} {L:List Value} {W W':World}
theorem SolAt.kept (h:SolAt w ib A n c W) (hb:Below W.heap.size W W'):SolAt w ib A n c W':=⟨h.ix.kept hb h.ix.lt,h.bel.trans (hb.mono h.bel.size)⟩
end
end Go.Proofs.YtgakcdcfblgagaaGreatDoor.Model
namespace Go.Proofs.YtgakcdcfblgagaaGreatDoor.Model
open Go.RowKit Num Ident Semver Fr
open Range (Rng noRng RV KeepS LtB LenOk goodR wt)
open KR (KRow AtV)
open Name (isName)
open Nrm (hasR inV)

def banK (pn:List UInt8) (v:Ver) (d:PDep):Int:=if depE d≠0 then depE d else if d.name=pn∧hasR d.r v=true then 18 else 0
theorem banK_dep {pn:List UInt8} {v:Ver} {d:PDep} (h:depE d≠0):banK pn v d=depE d:=by unfold banK; rw [if_pos h]
theorem banK_yes {pn:List UInt8} {v:Ver} {d:PDep} (h:depE d=0) (g:d.name=pn) (q:hasR d.r v=true):banK pn v d=18:=by unfold banK; rw [if_neg (fun k=>k h),if_pos ⟨g,q⟩]
theorem banK_no {pn:List UInt8} {v:Ver} {d:PDep} (h:depE d=0) (g:¬ (d.name=pn∧hasR d.r v=true)):banK pn v d=0:=by unfold banK; rw [if_neg (fun k=>k h),if_neg g]
theorem few_wt {d:MDep} (h:FewP d) (hs:Nrm.Slim d.r):wt d.r≤12:=Nat.le_trans (Nrm.wt_tot d.r) (h.2 hs)
theorem ban1_any (d:MDep) (pn:List UInt8) (r:MRel) (nb rb:Nat) (B:Nat) (w:World) (hd:DepOk w (LtB B) d) (hfew:FewP d) (hv:VerOk w (LtB B) r.ver) (hn:AtV w nb [.string (Ident.mk pn)]) (hr:AtV w rb [.int .u64 r.ver.v.a,.int .u64 r.ver.v.b,.int .u64 r.ver.v.c,.slice r.ver.A r.ver.v.pre.length r.ver.c,.slice r.ver.B r.ver.v.build.length r.ver.d,.bool r.yanked,.slice r.N r.needs.length r.nc,.slice r.B r.bans.length r.bc]) (hB:B≤w.heap.size) :
  Calls Tryz.prog 203 #[d.agg,.pointer (some ⟨nb,0,none⟩),.pointer (some ⟨rb,0,none⟩)] w fun e w'=>e=.returned (.int .i64 (banK pn r.ver.v d.p))∧Below w.heap.size w w':=by
 have HF:=Lib.hid hfew
 have HE1:=Lib.hid (fun h=>banK_dep (pn:=pn) (v:=r.ver.v) (d:=d.p) h)
 have HE2:=Lib.hid (fun h g q=>banK_yes (pn:=pn) (v:=r.ver.v) (d:=d.p) h g q)
 have HE3:=Lib.hid (fun h g=>banK_no (pn:=pn) (v:=r.ver.v) (d:=d.p) h g)
 obtain ⟨W0,hW,hav,hb0⟩:∃ W,W=w.alloc (.cells #[.string (Ident.mk d.name),d.x.kind,d.x.v.a,d.x.v.b,d.x.v.c,.slice d.x.A d.x.v.pre.length d.x.c,.slice d.x.B d.x.v.build.length d.x.d,.slice d.x.L d.x.n d.x.e] 67)∧AtV W w.heap.size [.string (Ident.mk d.name),.int .i64 d.x.kind,.int .u64 d.x.v.a,.int .u64 d.x.v.b,.int .u64 d.x.v.c,.slice d.x.A d.x.v.pre.length d.x.c,.slice d.x.B d.x.v.build.length d.x.d,.slice d.x.L d.x.n d.x.e]∧Below w.heap.size w W:=⟨_,rfl,AtV.new w _ _,(Below.refl _ _).alloc (Nat.le_refl _) _⟩
 have HAV:=Lib.hid hav
 have HB0:=Lib.hid hb0
 have HD0:=Lib.hid (hd.keep (KeepS.of_below (S:=LtB B) hb0))
 have HV0:=Lib.hid (hv.keep (KeepS.of_below (S:=LtB B) hb0))
 have HN0:=Lib.hid (hn.kept hb0 hn.lt)
 have HR0:=Lib.hid (hr.kept hb0 hr.lt)
 have HLB:Hid (B≤W0.heap.size):=Nat.le_trans hB hb0.size
 clear hav hb0 hd hv hn hr hfew
 obtain ⟨bd,hbd⟩:∃ bd,w.heap.size=bd:=⟨_,rfl⟩
 unfold MDep.agg
 go_enter Tryz.func203,Tryz.ntmps203
 go_upto_region 1 with (fail)
 rw [← hW]
 clear hW
 rw [hbd] at HAV
 clear hbd hB
 have c0:=HAV.out.at_ 0 _ rfl
 have c1:=HAV.out.at_ 1 _ rfl
 have c2:=HAV.out.at_ 2 _ rfl
 have c3:=HAV.out.at_ 3 _ rfl
 have c4:=HAV.out.at_ 4 _ rfl
 have c5:=HAV.out.at_ 5 _ rfl
 have c6:=HAV.out.at_ 6 _ rfl
 have c7:=HAV.out.at_ 7 _ rfl
 go_wp2_with fail
 refine (depFault_any d B _ HD0.out HLB.out).mono ?_
 rintro e W1 ⟨rfl,hb⟩
 have HB1:=Lib.hid (HB0.out.trans (hb.mono HB0.out.size))
 have HAV1:=Lib.hid (HAV.out.kept hb HAV.out.lt)
 have HD1:=Lib.hid (HD0.out.keep (KeepS.of_below (S:=LtB B) hb))
 have HV1:=Lib.hid (HV0.out.keep (KeepS.of_below (S:=LtB B) hb))
 have HN1:=Lib.hid (HN0.out.kept hb HN0.out.lt)
 have HR1:=Lib.hid (HR0.out.kept hb HR0.out.lt)
 have HL1:Hid (B≤W1.heap.size):=Nat.le_trans HLB.out hb.size
 clear hb c0 c1 c2 c3 c4 c5 c6 c7
 obtain ⟨q,hq⟩:∃ q,depE d.p=q:=⟨_,rfl⟩
 rw [hq] at HE1 HE2 HE3
 rw [hq]
 clear hq
 by_cases h0:q=0
 ·subst h0
  have c0:=HAV1.out.at_ 0 _ rfl
  have e0:=HN1.out.at_ 0 _ rfl
  by_cases hnq:d.name=pn
  ·have hbe:((Ident.mk d.name).toList == (Ident.mk pn).toList)=true:=by rw [hnq]; exact mk_eq _
   have HNQ:=Lib.hid hnq
   clear hnq
   have c1:=HAV1.out.at_ 1 _ rfl
   have c2:=HAV1.out.at_ 2 _ rfl
   have c3:=HAV1.out.at_ 3 _ rfl
   have c4:=HAV1.out.at_ 4 _ rfl
   have c5:=HAV1.out.at_ 5 _ rfl
   have c6:=HAV1.out.at_ 6 _ rfl
   have c7:=HAV1.out.at_ 7 _ rfl
   have f0:=HR1.out.at_ 0 _ rfl
   have f1:=HR1.out.at_ 1 _ rfl
   have f2:=HR1.out.at_ 2 _ rfl
   have f3:=HR1.out.at_ 3 _ rfl
   have f4:=HR1.out.at_ 4 _ rfl
   obtain ⟨hs,hhs⟩:∃ hs,hasR d.r r.ver.v=hs:=⟨_,rfl⟩
   have HHS:=Lib.hid hhs
   go_wp2_with fail
   refine (Nrm.has_norm d.r d.x B r.ver.v r.ver.A r.ver.c r.ver.B r.ver.d _ HD1.out.lies HL1.out HD1.out.len (fun _=>by have:=few_wt HF.out HD1.out.slim; omega) HV1.out.pre HV1.out.build ⟨HV1.out.fit.pre,HV1.out.fit.build,HV1.out.fit.pres,HV1.out.fit.builds⟩).mono ?_
   rw [hhs]
   clear hhs
   rintro e W2 ⟨rfl,hb⟩
   have HB2:=Lib.hid (HB1.out.trans (hb.mono HB1.out.size))
   clear hb c1 c2 c3 c4 c5 c6 c7 f0 f1 f2 f3 f4 c0 e0
   cases hs
   ·have HZ:=Lib.hid (HE3.out (by trivial) (fun g=>by have h:hasR d.r r.ver.v=true:=g.2; rw [HHS.out] at h; cases h))
    go_wp2
    go_ret
    exact ⟨by rw [HZ.out]; rfl,HB2.out⟩
   ·have HZ:=Lib.hid (HE2.out (by trivial) HNQ.out HHS.out)
    go_wp2
    go_ret
    exact ⟨by rw [HZ.out]; rfl,HB2.out⟩
  ·have hbe:((Ident.mk d.name).toList == (Ident.mk pn).toList)=false:=mk_ne hnq
   have HZ:=Lib.hid (HE3.out (by trivial) (fun g=>hnq g.1))
   clear hnq
   go_wp2
   go_ret
   exact ⟨by rw [HZ.out]; rfl,HB1.out⟩
 ·have hne:(q == 0)=false:=by simpa using h0
  have HZ:=Lib.hid (HE1.out h0)
  clear h0
  go_wp2
  go_ret
  exact ⟨by rw [HZ.out]; rfl,HB1.out⟩
def depsF (pn:List UInt8) (r:PRel):Option (Nat × Int):=firstG (fun j d=>toO (banE pn r.v r.needs.length j d)) 0 (r.needs ++ r.bans)
theorem firstG_shift {α β:Type} (f:Nat→α→Option β):∀ (l:List α) (m:Nat),firstG f m l=(firstG (fun k=>f (m+k)) 0 l).map fun p=>(m+p.1,p.2)
 | [],_=>rfl
 | x :: l,m=>by
  rw [firstG,firstG]
  show (match f m x with | some b=>some (m,b) | none=>firstG f (m+1) l)=Option.map _ (match f (m+0) x with | some b=>some (0,b) | none=>firstG (fun k=>f (m+k)) (0+1) l)
  rw [Nat.add_zero]
  cases f m x with
  | some b=>rfl
  | none =>
   show firstG f (m+1) l=Option.map _ (firstG (fun k=>f (m+k)) 1 l)
   rw [firstG_shift f l (m+1),firstG_shift (fun k=>f (m+k)) l 1,Option.map_map]
   have e:(fun k=>f (m+1+k))=(fun k=>f (m+(1+k))):=by funext k; rw [Nat.add_assoc]
   rw [e]
   congr 1
   funext p
   show (m+1+p.1,p.2)=(m+(1+p.1),p.2)
   rw [Nat.add_assoc]
theorem firstG_append {α β:Type} (f:Nat→α→Option β):∀ (a b:List α) (m:Nat),firstG f m (a ++ b)=(firstG f m a).or (firstG f (m+a.length) b)
 | [],b,m=>rfl
 | x :: a,b,m=>by
  rw [List.cons_append,firstG,firstG]
  cases f m x with
  | some y=>rfl
  | none =>
   show firstG f (m+1) (a ++ b)=_
   rw [firstG_append f a b (m+1),List.length_cons,Nat.add_assoc,Nat.add_comm 1 a.length]
theorem firstG_congr {α β:Type} [Inhabited α] {f g:Nat→α→Option β}:∀ (l:List α) (m:Nat),(∀ k,k<l.length→f (m+k) (l.getD k default)=g (m+k) (l.getD k default))→firstG f m l=firstG g m l
 | [],_,_=>rfl
 | x :: l,m,h=>by
  have h0:f m x=g m x:=h 0 (Nat.succ_pos _)
  rw [firstG,firstG,h0]
  cases g m x with
  | some y=>rfl
  | none=>exact firstG_congr l (m+1) fun k hk=>by have:=h (k+1) (by simpa using hk); rw [Nat.add_right_comm]; exact this
theorem firstE_some' {α:Type} (g:Nat→α→Int):∀ (l:List α) (m:Nat) (p:Nat × Int),firstG (fun k d=>toO (g k d)) m l=some p→p.2≠0∧p.1<m+l.length
 | [],_,_,h=>by cases h
 | x :: l,m,p,h=>by
  rw [firstG] at h
  by_cases h0:g m x=0
  ·have e:toO (g m x)=none:=toO_none.2 h0
   rw [e] at h
   have:=firstE_some' g l (m+1) p h
   exact ⟨this.1,by rw [List.length_cons]; omega⟩
  ·have e:toO (g m x)=some (g m x):=toO_some h0
   rw [e] at h
   injection h with h
   subst h
   exact ⟨h0,by rw [List.length_cons]; omega⟩
theorem firstE_some {α:Type} {g:Nat→α→Int} {l:List α} {p:Nat × Int} (h:firstG (fun k d=>toO (g k d)) 0 l=some p):p.2≠0∧p.1<l.length:=by
 have:=firstE_some' g l 0 p h
 rwa [Nat.zero_add] at this
theorem rootsF_ne {l:List PDep} {p:Nat × Int} (h:rootsF l=some p):p.2≠0:=(firstE_some (g:=fun _ d=>depE d) h).1
theorem depsF_eq (pn:List UInt8) (r:PRel) (hv:goodV r.v=true):depsF pn r=(rootsF r.needs).or ((firstG (fun _ d=>toO (banK pn r.v d)) 0 r.bans).map fun p=>(r.needs.length+p.1,p.2)):=by
 unfold depsF rootsF
 rw [firstG_append,Nat.zero_add]
 congr 1
 ·refine firstG_congr _ _ fun k hk=>?_
  rw [Nat.zero_add]
  have e:banE pn r.v r.needs.length k (r.needs.getD k default)=depE (r.needs.getD k default):=by
   unfold banE
   by_cases h:depE (r.needs.getD k default)≠0
   ·rw [if_pos h]
   ·rw [if_neg h,if_neg (fun g=>by have:=g.1; omega),Decidable.not_not.1 h]
  rw [e]
 ·rw [firstG_shift]
  congr 1
  refine firstG_congr _ _ fun k hk=>?_
  rw [Nat.zero_add]
  show toO (banE pn r.v r.needs.length (r.needs.length+k) (r.bans.getD k default))=_
  have e:banE pn r.v r.needs.length (r.needs.length+k) (r.bans.getD k default)=banK pn r.v (r.bans.getD k default):=by
   unfold banE banK
   by_cases h0:depE (r.bans.getD k default)≠0
   ·rw [if_pos h0,if_pos h0]
   ·rw [if_neg h0,if_neg h0]
    have h:=Decidable.not_not.1 h0
    have hg:goodR (r.bans.getD k default).r 0=true:=by
     unfold depE at h
     by_cases h1:isName (r.bans.getD k default).name=false
     ·rw [if_pos h1] at h; cases h
     ·rw [if_neg h1] at h
      by_cases h2:goodR (r.bans.getD k default).r 0=false
      ·rw [if_pos h2] at h; cases h
      ·rwa [Bool.not_eq_false] at h2
    rw [Nrm.hasR_good hg hv]
    by_cases h3:(r.bans.getD k default).name=pn∧inV (r.bans.getD k default).r r.v=true
    ·rw [if_pos ⟨Nat.le_add_right _ _,h3⟩,if_pos h3]
    ·rw [if_neg (fun g=>h3 g.2),if_neg h3]
  rw [e]
theorem depsFault_any (pn:List UInt8) (r:MRel) (B:Nat) (w:World) (hr:RelOk w (LtB B) r) (h1:FewD r.needs) (h2:FewD r.bans) (hg:goodV r.ver.v=true) (hB:B≤w.heap.size) :
  Calls Tryz.prog 165 #[.string (Ident.mk pn),r.agg] w fun e w'=>e=.returned (out2V (depsF pn r.p))∧Below w.heap.size w w':=by
 have HEQ:=Lib.hid (depsF_eq pn r.p hg)
 obtain ⟨W0,hW,hnv,hav,hb0⟩:∃ W,W=(w.alloc (.cells #[.string (Ident.mk pn)] 9)).alloc (.cells #[r.ver.v.a,r.ver.v.b,r.ver.v.c,.slice r.ver.A r.ver.v.pre.length r.ver.c,.slice r.ver.B r.ver.v.build.length r.ver.d,.bool r.yanked,.slice r.N r.needs.length r.nc,.slice r.B r.bans.length r.bc] 46)∧AtV W w.heap.size [.string (Ident.mk pn)]∧AtV W (w.heap.size+1) [.int .u64 r.ver.v.a,.int .u64 r.ver.v.b,.int .u64 r.ver.v.c,.slice r.ver.A r.ver.v.pre.length r.ver.c,.slice r.ver.B r.ver.v.build.length r.ver.d,.bool r.yanked,.slice r.N r.needs.length r.nc,.slice r.B r.bans.length r.bc]∧Below w.heap.size w W :=
  ⟨_,rfl,(AtV.new w _ _).kept ((Below.refl _ _).alloc (Nat.le_refl _) _) (by simp),(by have h:=AtV.new (w.alloc (.cells #[.string (Ident.mk pn)] 9)) 46 [.int .u64 r.ver.v.a,.int .u64 r.ver.v.b,.int .u64 r.ver.v.c,.slice r.ver.A r.ver.v.pre.length r.ver.c,.slice r.ver.B r.ver.v.build.length r.ver.d,.bool r.yanked,.slice r.N r.needs.length r.nc,.slice r.B r.bans.length r.bc]; rwa [size_alloc] at h),((Below.refl _ _).alloc (Nat.le_refl _) _).alloc (by simp) _⟩
 have HNV:=Lib.hid hnv
 have HAV:=Lib.hid hav
 have HB0:=Lib.hid hb0
 have HR0:=Lib.hid (hr.keep (KeepS.of_below (S:=LtB B) hb0))
 have HF:=Lib.hid h2
 have HF1:=Lib.hid h1.1
 have HL0:Hid (B≤W0.heap.size):=Nat.le_trans hB hb0.size
 clear hnv hav hb0 hr h1 h2 hg
 obtain ⟨nb,hnb⟩:∃ nb,w.heap.size=nb:=⟨_,rfl⟩
 rw [hnb] at HAV HNV
 unfold MRel.agg
 go_enter Tryz.func165,Tryz.ntmps165
 go_upto_region 1 with (fail)
 rw [← hW]
 try rw [hnb]
 clear hW hnb hB
 have c6:=HAV.out.at_ 6 _ rfl
 go_wp2_with fail
 refine (roots_any r.N r.needs.length r.nc r.needs B _ HR0.out.needs HL0.out (by have:=HR0.out.nc; exact Nat.le_trans this.1 this.2)).mono ?_
 rintro e W1 ⟨rfl,hb⟩
 have HB1:=Lib.hid (HB0.out.trans (hb.mono HB0.out.size))
 have HAV1:=Lib.hid (HAV.out.kept hb HAV.out.lt)
 have HNV1:=Lib.hid (HNV.out.kept hb HNV.out.lt)
 have HR1:=Lib.hid (HR0.out.keep (KeepS.of_below (S:=LtB B) hb))
 have HL1:Hid (B≤W1.heap.size):=Nat.le_trans HL0.out hb.size
 clear hb c6
 have hrp:r.p.needs=r.needs.map MDep.p:=rfl
 rw [← hrp]
 obtain ⟨q,hq⟩:∃ q,rootsF r.p.needs=q:=⟨_,rfl⟩
 rw [hq] at HEQ ⊢
 have HQ:=Lib.hid hq
 clear hq hrp
 cases q with
 | some p =>
  have hpe:p.2≠0:=rootsF_ne HQ.out
  have HZ:Hid (depsF pn r.p=some p):=HEQ.out
  obtain ⟨k,e⟩:=p
  have hne:(e == 0)=false:=by simpa using hpe
  clear hpe
  unfold out2V out2
  go_wp2
  go_ret2
  exact ⟨by rw [HZ.out]; rfl,HB1.out⟩
 | none =>
  have HZ:Hid (depsF pn r.p=((firstG (fun _ d=>toO (banK pn r.ver.v d)) 0 (r.bans.map MDep.p)).map fun p=>(r.needs.length+p.1,p.2))):=by
   have:=HEQ.out
   rw [Option.none_or] at this
   have e:r.p.needs.length=r.needs.length:=List.length_map _
   rw [e] at this
   exact this
  have HP:Hid (∀ e w',FirstPost r.bans.length (fun k=>banK pn r.ver.v (r.bans.getD k default).p) (fun _ W=>Below W1.heap.size W1 W) (fun _ W=>Below W1.heap.size W1 W) e w'→e=.returned (out2V (firstG (fun _ d=>toO (banK pn r.ver.v d)) 0 (r.bans.map MDep.p)))∧Below W1.heap.size W1 w'):=fun e w' hp=>by
   have hq:=first_out (r.bans.map MDep.p) _ _ _ (by rw [List.length_map]; exact hp) (fun _ d=>banK pn r.ver.v d) (fun k hk=>by rw [List.length_map] at hk; rw [map_at MDep.p r.bans hk])
   exact ⟨hq.1,by rcases hq.2 with ⟨k,_,hb,_⟩ | ⟨hb,_⟩ <;> exact hb⟩
  have hfst:Calls Tryz.prog 202 #[.slice r.B r.bans.length r.bc,.func (.func 203) #[] #[.pointer (some ⟨nb,0,none⟩),.pointer (some ⟨nb+1,0,none⟩)]] W1 _:=firstDep_any 203 #[.pointer (some ⟨nb,0,none⟩),.pointer (some ⟨nb+1,0,none⟩)] (enters_of Tryz.func203 (by kernel_rfl) rfl) r.B r.bans.length r.bc r.bans (fun k=>banK pn r.ver.v (r.bans.getD k default).p) (fun _ W=>Below W1.heap.size W1 W) (fun _ W=>Below W1.heap.size W1 W) (LtB B) W1 (by have:=HR1.out.bc; exact Nat.le_trans this.1 this.2)
   (fun k W _ hb=>HR1.out.bans.keep (KeepS.of_below hb))
   (fun k W hk hb=>(ban1_any (r.bans.getD k default) pn r nb (nb+1) B W ((HR1.out.bans.keep (KeepS.of_below hb)).ok _ (HR1.out.bans.row.mem hk)) (HF.out.2 _ (HR1.out.bans.row.mem hk)) (HR1.out.ver.keep (KeepS.of_below hb)) (HNV1.out.kept hb HNV1.out.lt) (HAV1.out.kept hb HAV1.out.lt) (Nat.le_trans HL1.out hb.size)).mono fun e w' ⟨he,hb'⟩=>⟨he,fun _=>hb.trans (hb'.mono hb.size),fun _=>hb.trans (hb'.mono hb.size)⟩) (Below.refl _ _)
  have c7:=HAV1.out.at_ 7 _ rfl
  have d0:W1.cell? ⟨nb+1,6,none⟩=some (.slice r.N r.needs.length r.nc):=HAV1.out.at_ 6 _ rfl
  unfold out2V out2
  go_wp2_with fail
  refine hfst.mono ?_
  intro e W2 hp
  obtain ⟨he,hb⟩:=HP.out e W2 hp
  subst he
  clear hp
  have HB2:=Lib.hid (HB1.out.trans (hb.mono HB1.out.size))
  have HAV2:=Lib.hid (HAV1.out.kept hb HAV1.out.lt)
  clear hb c7 d0
  obtain ⟨q,hq⟩:∃ q,firstG (fun _ d=>toO (banK pn r.ver.v d)) 0 (r.bans.map MDep.p)=q:=⟨_,rfl⟩
  rw [hq] at HZ ⊢
  have HQ2:=Lib.hid hq
  clear hq
  cases q with
  | none =>
   unfold out2V out2
   go_wp2
   go_ret2
   exact ⟨by rw [HZ.out]; rfl,HB2.out⟩
  | some p =>
   have hpe:p.2≠0∧p.1<(r.bans.map MDep.p).length:=firstE_some HQ2.out
   obtain ⟨k,e⟩:=p
   have hne:(e == 0)=false:=by simpa using hpe.1
   have hk:k<r.bans.length:=by have:=hpe.2; rwa [List.length_map] at this
   clear hpe
   have c6:=HAV2.out.at_ 6 _ rfl
   have hl1:r.needs.length≤9223372036854775807:=by have:=HR1.out.nc; unfold maxLen at this; omega
   have HX:Hid (r.needs.length+r.bans.length≤100):=by have a:=HF1.out; have b:=HF.out.1; unfold Hid; omega
   have hx2:(k:Int)+(r.needs.length:Int)≤100:=by have:=HX.out; omega
   unfold out2V out2
   go_wp2
   go_ret2
   refine ⟨?_,HB2.out⟩
   rw [HZ.out]
   show Ending.returned (.tuple #[.int .i64 ((k:Int)+(r.needs.length:Int)),.int .i64 e])=.returned (.tuple #[.int .i64 ((r.needs.length+k:Nat):Int),.int .i64 e])
   rw [Int.natCast_add,Int.add_comm]
end Go.Proofs.YtgakcdcfblgagaaGreatDoor.Model
namespace Go.Proofs.YtgakcdcfblgagaaGreatDoor.Model
open Go.RowKit Num Ident Semver Fr
open Range (Rng noRng RV KeepS LtB LenOk goodR wt)
open KR (KRow AtV)
open Name (isName)

theorem nameB_iff {α:Type} [Inhabited α] (nm:α→List UInt8) (l:List α) (k:Nat):nameB nm l k=true↔nm (l.getD k default) ∈ (l.take k).map nm:=by
 unfold nameB
 simp only [List.any_eq_true,beq_iff_eq,List.mem_map]
theorem take_map_snoc {α β:Type} [Inhabited α] (f:α→β) (l:List α) {k:Nat} (h:k<l.length):(l.take (k+1)).map f=(l.take k).map f ++ [f (l.getD k default)]:=by
 rw [List.take_succ_eq_append_getElem h,List.map_append,List.getD_eq_getElem?_getD,List.getElem?_eq_getElem h]; rfl
end Go.Proofs.YtgakcdcfblgagaaGreatDoor.Model
namespace Go.Proofs.YtgakcdcfblgagaaGreatDoor.Model
open Go.RowKit Num Ident Semver
open Range (Rng noRng RV KeepS LtB LenOk goodR wt)
open KR (KRow AtV)

def FewPin (p:MPin):Prop:=p.name.length≤300∧p.ver.v.pre.length≤20∧p.ver.v.build.length≤20
def FewRel (r:MRel):Prop:=r.ver.v.pre.length≤20∧r.ver.v.build.length≤20∧FewD r.needs∧FewD r.bans
def FewPack (p:MPack):Prop:=(p.name.length≤300∧p.rels.length≤6)∧∀ r ∈ p.rels,FewRel r
def FewPost (x:List MPack) (roots:List MDep) (s:List MPin) (w:World) (e:Ending) (w':World):Prop :=
 ∃ z:Int,e=.returned (.int .i64 z)∧(z=0→FewX x∧FewD roots∧FewS s)∧Below w.heap.size w w'
theorem FewPost.no {x:List MPack} {roots:List MDep} {s:List MPin} {w w':World} {z:Int} (hz:z≠0) (hb:Below w.heap.size w w'):FewPost x roots s w (.returned (.int .i64 z)) w' :=
 ⟨z,rfl,fun h=>absurd h hz,hb⟩
theorem lawFew_any (A:Option Addr) (n c:Nat) (x:List MPack) (RA:Option Addr) (rn rc:Nat) (roots:List MDep) (SA:Option Addr) (m sc:Nat) (s:List MPin) (B:Nat) (w:World) (hx:PRow w (LtB B) A n x) (hr:DRow w (LtB B) RA rn roots) (hs:SPRow w (LtB B) SA m s) (hB:B≤w.heap.size) (hn:n≤maxLen) (hrn:rn≤maxLen) (hm:m≤maxLen) :
  Calls Tryz.prog 13 #[.agg #[.slice A n c],.slice RA rn rc,.slice SA m sc] w (FewPost x roots s w):=by
 have HX:=Lib.hid hx
 have HRT:=Lib.hid hr
 have HSP:=Lib.hid hs
 have HLX:=Lib.hid hx.row.1
 have HLS:=Lib.hid hs.row.1
 have HRN:=Lib.hid hrn
 have hnn:n≤9223372036854775807:=hn
 have hmm:m≤9223372036854775807:=hm
 clear hx hr hs hrn
 obtain ⟨W0,hW,hav,hb0⟩:∃ W,W=w.alloc (.cells #[.slice A n c] 26)∧AtV W w.heap.size [.slice A n c]∧Below w.heap.size w W:=⟨_,rfl,AtV.new w _ _,(Below.refl _ _).alloc (Nat.le_refl _) _⟩
 have HS0:Hid (SolAt w w.heap.size A n c W0):=⟨hav,hb0⟩
 clear hav hb0
 obtain ⟨ib,hib⟩:∃ ib,w.heap.size=ib:=⟨_,rfl⟩
 go_enter Tryz.func13,Tryz.ntmps13
 go_upto_region 1 with (fail)
 rw [← hW]
 clear hW
 have HIE:=Lib.hid hib
 rw [hib] at HS0
 clear hib
 have i0:=HS0.out.ix.at_ 0 _ rfl
 by_cases h6:6<n
 ·go_wp2
  go_ret
  exact FewPost.no (by omega) HS0.out.bel
 ·by_cases h8:8<m
  ·go_wp2
   go_ret
   exact FewPost.no (by omega) HS0.out.bel
  ·have HN6:Hid (x.length≤6):=by unfold Hid; rw [HLX.out]; omega
   have HM8:Hid (s.length≤8):=by unfold Hid; rw [HLS.out]; omega
   go_wp2_with fail
   refine (lawDeps_any RA rn rc roots B W0 (HRT.out.keep (KeepS.of_below (S:=LtB B) HS0.out.bel)) (Nat.le_trans hB HS0.out.bel.size) HRN.out).mono ?_
   rintro e W1 ⟨b,rfl,hfd,hb1⟩
   have HS1:=Lib.hid (HS0.out.kept hb1)
   clear hb1 i0
   cases b with
   | false =>
    clear hfd
    go_wp2
    go_ret
    exact FewPost.no (by omega) HS1.out.bel
   | true =>
    have HFD:=Lib.hid (hfd rfl)
    clear hfd
    go_wp2
    go_loopw [7] (fun v W=>∃ k:Nat,k≤m∧v=.int .i64 k∧Hid (∀ j,j<k→FewPin (s.getD j default))∧Hid (Below W1.heap.size W1 W)) (fun v _=>m - (intOf v).toNat)
    case atStart=>exact ⟨0,Nat.zero_le _,rfl,(fun j hj=>by omega),Below.refl _ _⟩
    case round =>
     rename World=>wk
     obtain ⟨k,hk,rfl,HD,HW⟩:=hrel
     have HSK:=Lib.hid (HS1.out.kept HW.out)
     by_cases hlt:k<m
     ·have hrow:=HSP.out.keep (KeepS.of_below (S:=LtB B) HSK.out.bel)
      have HPO:Hid (PinOk wk (LtB B) (s.getD k default)):=hrow.ok _ (getD_mem (by rw [HLS.out]; exact hlt))
      obtain ⟨b,o,rfl,_,hb,c0,c1,c2,c3,c4,c5⟩:=hrow.cells hlt
      have HMO:Hid (FewPin (s.getD k default)→∀ j,j<k+1→FewPin (s.getD j default)):=at_step HD.out
      clear hrow
      generalize s.getD k default=p at c0 c1 c2 c3 c4 c5 HPO HMO
      have hz:(Ident.mk p.name).size=p.name.length:=mk_size _
      have hsh:p.name.length≤9223372036854775807:=HPO.out.short
      have hs1:p.ver.v.pre.length≤9223372036854775807:=HPO.out.ver.fit.pre
      have hs2:p.ver.v.build.length≤9223372036854775807:=HPO.out.ver.fit.build
      by_cases h3:300<p.name.length
      ·go_wp2
       go_ret
       exact FewPost.no (by omega) HSK.out.bel
      ·by_cases h4:20<p.ver.v.pre.length
       ·go_wp2
        go_ret
        exact FewPost.no (by omega) HSK.out.bel
       ·by_cases h5:20<p.ver.v.build.length
        ·go_wp2
         go_ret
         exact FewPost.no (by omega) HSK.out.bel
        ·have HP:Hid (∀ j,j<k+1→FewPin (s.getD j default)):=HMO.out ⟨by omega,by omega,by omega⟩
         go_wp2
         exact ⟨⟨k+1,by omega,by go_num,HP.out,HW.out⟩,by simp [intOf]; omega⟩
     ·obtain rfl:k=m:=by omega
      have HFS:Hid (FewS s):=⟨HM8.out,mem_of_at HLS.out HD.out⟩
      clear HD
      go_wp2
      go_loopw [8] (fun v W=>∃ i:Nat,i≤n∧v=.int .i64 i∧Hid (∀ j,j<i→FewPack (x.getD j default))∧Hid (Below wk.heap.size wk W)) (fun v _=>n - (intOf v).toNat)
      case atStart=>exact ⟨0,Nat.zero_le _,rfl,(fun j hj=>by omega),Below.refl _ _⟩
      case round =>
       rename World=>wi
       obtain ⟨i,hi,rfl,HDI,HWI⟩:=hrel
       have HSI:=Lib.hid (HSK.out.kept HWI.out)
       by_cases hlt:i<n
       ·have hrow:=HX.out.keep (KeepS.of_below (S:=LtB B) HSI.out.bel)
        have HPK:Hid (PackOk wi (LtB B) (x.getD i default)):=hrow.ok _ (getD_mem (by rw [HLX.out]; exact hlt))
        obtain ⟨b,o,e0,_,hb,c0,c1⟩:=hrow.cells hlt
        have HMO:Hid (FewPack (x.getD i default)→∀ j,j<i+1→FewPack (x.getD j default)):=at_step HDI.out
        clear hrow
        generalize x.getD i default=p at c0 c1 HPK HMO
        subst e0
        have i0:=HSI.out.ix.at_ 0 _ rfl
        have hin:¬ n≤i:=by omega
        go_upto_region 12 with (fail)
        have HAL:Hid (Below wi.heap.size wi (wi.alloc (.cells #[.string (Ident.mk p.name),.slice p.R p.rels.length p.rc] 48))):=(Below.refl _ _).alloc (Nat.le_refl _) _
        have HSI2:=Lib.hid (HSI.out.kept HAL.out)
        have HWI2:=Lib.hid (HWI.out.trans (HAL.out.mono HWI.out.size))
        have HPB:Hid (AtV (wi.alloc (.cells #[.string (Ident.mk p.name),.slice p.R p.rels.length p.rc] 48)) wi.heap.size [.string (Ident.mk p.name),.slice p.R p.rels.length p.rc]):=AtV.new wi _ _
        have HPK2:Hid (PackOk (wi.alloc (.cells #[.string (Ident.mk p.name),.slice p.R p.rels.length p.rc] 48)) (LtB B) p):=HPK.out.keep (KeepS.of_below HAL.out)
        obtain ⟨pb,hpb⟩:∃ pb,wi.heap.size=pb:=⟨_,rfl⟩
        rw [hpb] at HPB ⊢
        clear hpb c0 c1 i0 HPK HAL HSI HWI
        generalize wi.alloc (.cells #[.string (Ident.mk p.name),.slice p.R p.rels.length p.rc] 48)=W2 at HSI2 HWI2 HPB HPK2 ⊢
        have p0:=HPB.out.at_ 0 _ rfl
        have p1:=HPB.out.at_ 1 _ rfl
        have hz:(Ident.mk p.name).size=p.name.length:=mk_size _
        have hsh:p.name.length≤9223372036854775807:=HPK2.out.short
        have hrl:p.rels.length≤9223372036854775807:=Nat.le_trans HPK2.out.rc.1 HPK2.out.rc.2
        by_cases h3:300<p.name.length
        ·go_wp2
         go_ret
         exact FewPost.no (by omega) HSI2.out.bel
        ·by_cases h4:6<p.rels.length
         ·go_wp2
          go_ret
          exact FewPost.no (by omega) HSI2.out.bel
         ·have HPP:Hid (p.name.length≤300∧p.rels.length≤6):=⟨by omega,by omega⟩
          go_wp2
          clear p0 p1
          go_loopw [10] (fun v W=>∃ q:Nat,q≤p.rels.length∧v=.int .i64 q∧Hid (∀ j,j<q→FewRel (p.rels.getD j default))∧Hid (Below W2.heap.size W2 W)) (fun v _=>p.rels.length - (intOf v).toNat)
          case atStart=>exact ⟨0,Nat.zero_le _,rfl,(fun j hj=>by omega),Below.refl _ _⟩
          case round =>
           rename World=>wq
           obtain ⟨q,hq,rfl,HDQ,HWQ⟩:=hrel
           have HPQ:=Lib.hid (HPB.out.kept HWQ.out HPB.out.lt)
           have HSQ:=Lib.hid (HSI2.out.kept HWQ.out)
           have HWIQ:=Lib.hid (HWI2.out.trans (HWQ.out.mono HWI2.out.size))
           have p1:=HPQ.out.at_ 1 _ rfl
           by_cases hql:q<p.rels.length
           ·have hrr:=HPK2.out.rels.keep (KeepS.of_below (S:=LtB B) HWQ.out)
            have HRO:Hid (RelOk wq (LtB B) (p.rels.getD q default)):=hrr.ok _ (getD_mem hql)
            obtain ⟨g,og,eg,_,hgl,c0,c1,c2,c3,c4,c5,c6,c7⟩:=hrr.cells hql
            rw [eg] at p1
            have HMQ:Hid (FewRel (p.rels.getD q default)→∀ j,j<q+1→FewRel (p.rels.getD j default)):=at_step HDQ.out
            clear hrr eg
            generalize p.rels.getD q default=r at c0 c1 c2 c3 c4 c5 c6 c7 HRO HMQ
            have hqn:¬ p.rels.length≤q:=by omega
            go_upto_region 18 with (fail)
            have HAL:Hid (Below wq.heap.size wq (wq.alloc (.cells #[r.ver.v.a,r.ver.v.b,r.ver.v.c,.slice r.ver.A r.ver.v.pre.length r.ver.c,.slice r.ver.B r.ver.v.build.length r.ver.d,.bool r.yanked,.slice r.N r.needs.length r.nc,.slice r.B r.bans.length r.bc] 46))):=(Below.refl _ _).alloc (Nat.le_refl _) _
            have HWQ2:=Lib.hid (HWQ.out.trans (HAL.out.mono HWQ.out.size))
            have HRO2:Hid (RelOk (wq.alloc (.cells #[r.ver.v.a,r.ver.v.b,r.ver.v.c,.slice r.ver.A r.ver.v.pre.length r.ver.c,.slice r.ver.B r.ver.v.build.length r.ver.d,.bool r.yanked,.slice r.N r.needs.length r.nc,.slice r.B r.bans.length r.bc] 46)) (LtB B) r):=HRO.out.keep (KeepS.of_below HAL.out)
            have HQB:Hid (AtV (wq.alloc (.cells #[r.ver.v.a,r.ver.v.b,r.ver.v.c,.slice r.ver.A r.ver.v.pre.length r.ver.c,.slice r.ver.B r.ver.v.build.length r.ver.d,.bool r.yanked,.slice r.N r.needs.length r.nc,.slice r.B r.bans.length r.bc] 46)) wq.heap.size [.int .u64 r.ver.v.a,.int .u64 r.ver.v.b,.int .u64 r.ver.v.c,.slice r.ver.A r.ver.v.pre.length r.ver.c,.slice r.ver.B r.ver.v.build.length r.ver.d,.bool r.yanked,.slice r.N r.needs.length r.nc,.slice r.B r.bans.length r.bc]):=AtV.new wq _ _
            obtain ⟨qb,hqb⟩:∃ qb,wq.heap.size=qb:=⟨_,rfl⟩
            rw [hqb] at HQB ⊢
            clear hqb c0 c1 c2 c3 c4 c5 c6 c7 p1 HRO HAL hgl HPQ HSQ HWIQ HWQ
            generalize wq.alloc (.cells #[r.ver.v.a,r.ver.v.b,r.ver.v.c,.slice r.ver.A r.ver.v.pre.length r.ver.c,.slice r.ver.B r.ver.v.build.length r.ver.d,.bool r.yanked,.slice r.N r.needs.length r.nc,.slice r.B r.bans.length r.bc] 46)=W3 at HRO2 HWQ2 HQB ⊢
            have HS3:=Lib.hid (HSI2.out.kept HWQ2.out)
            have hs1:r.ver.v.pre.length≤9223372036854775807:=HRO2.out.ver.fit.pre
            have hs2:r.ver.v.build.length≤9223372036854775807:=HRO2.out.ver.fit.build
            have q3:=HQB.out.at_ 3 _ rfl
            have q4:=HQB.out.at_ 4 _ rfl
            have q6:=HQB.out.at_ 6 _ rfl
            by_cases h5:20<r.ver.v.pre.length
            ·go_wp2
             go_ret
             exact FewPost.no (by omega) HS3.out.bel
            ·by_cases h7:20<r.ver.v.build.length
             ·go_wp2
              go_ret
              exact FewPost.no (by omega) HS3.out.bel
             ·have HRP:Hid (r.ver.v.pre.length≤20∧r.ver.v.build.length≤20):=⟨by omega,by omega⟩
              go_wp2_with fail
              refine (lawDeps_any r.N r.needs.length r.nc r.needs B W3 HRO2.out.needs (Nat.le_trans hB HS3.out.bel.size) (Nat.le_trans HRO2.out.nc.1 HRO2.out.nc.2)).mono ?_
              rintro e W4 ⟨b4,rfl,hf4,hb4⟩
              have HB4:=Lib.hid hb4
              have HS4:=Lib.hid (HS3.out.kept hb4)
              have HQ4:=Lib.hid (HQB.out.kept hb4 HQB.out.lt)
              clear hb4 q3 q4 q6
              cases b4 with
              | false =>
               clear hf4
               go_wp2
               go_ret
               exact FewPost.no (by omega) HS4.out.bel
              | true =>
               have HF4:=Lib.hid (hf4 rfl)
               clear hf4
               have q7:=HQ4.out.at_ 7 _ rfl
               go_wp2_with fail
               refine (lawDeps_any r.B r.bans.length r.bc r.bans B W4 (HRO2.out.bans.keep (KeepS.of_below (S:=LtB B) HB4.out)) (Nat.le_trans hB HS4.out.bel.size) (Nat.le_trans HRO2.out.bc.1 HRO2.out.bc.2)).mono ?_
               rintro e W5 ⟨b5,rfl,hf5,hb5⟩
               have HS5:=Lib.hid (HS4.out.kept hb5)
               have HW5:=Lib.hid (HWQ2.out.trans ((HB4.out.trans (hb5.mono HB4.out.size)).mono HWQ2.out.size))
               clear hb5 q7
               cases b5 with
               | false =>
                clear hf5
                go_wp2
                go_ret
                exact FewPost.no (by omega) HS5.out.bel
               | true =>
                have HP:Hid (∀ j,j<q+1→FewRel (p.rels.getD j default)):=HMQ.out ⟨HRP.out.1,HRP.out.2,HF4.out,hf5 rfl⟩
                clear hf5
                go_wp2
                exact ⟨⟨q+1,by omega,by go_num,HP.out,HW5.out⟩,by simp [intOf]; omega⟩
           ·obtain rfl:q=p.rels.length:=by omega
            have HP:Hid (∀ j,j<i+1→FewPack (x.getD j default)):=HMO.out ⟨HPP.out,mem_of_at rfl HDQ.out⟩
            go_wp2
            exact ⟨⟨i+1,by omega,by go_num,HP.out,HWIQ.out⟩,by simp [intOf]; omega⟩
       ·obtain rfl:i=n:=by omega
        have HF:=Lib.hid (mem_of_at HLX.out HDI.out)
        have HFX:Hid (FewX x):=⟨HN6.out,fun p hp=>(HF.out p hp).1,fun p hp r hr=>(HF.out p hp).2 r hr⟩
        have i0:=HSI.out.ix.at_ 0 _ rfl
        go_wp2
        go_ret
        exact ⟨0,rfl,fun _=>⟨HFX.out,HFD.out,HFS.out⟩,HSI.out.bel⟩
end Go.Proofs.YtgakcdcfblgagaaGreatDoor.Model
namespace Go.Proofs.YtgakcdcfblgagaaGreatDoor.Model
open Go.RowKit Num Ident Semver
open Range (Rng noRng RV KeepS LtB LenOk goodR wt)
open KR (KRow AtV)

structure SlOk (A:Option Addr) (n c:Nat):Prop where
 le:n≤c
 max:c≤maxLen
 nil:A=none→c=0
theorem SlOk.len {A:Option Addr} {n c:Nat} (h:SlOk A n c):n≤maxLen:=Nat.le_trans h.le h.max
def PlainPost (x:List MPack) (w:World) (e:Ending) (w':World):Prop :=
 ∃ (A:Option Addr) (c:Nat) (y:List MPack),e=.returned (.agg #[.slice A y.length c])∧PRow w' (LtB w'.heap.size) A y.length y∧SlOk A y.length c∧PlainOf (x.map MPack.p) (y.map MPack.p)∧Below w.heap.size w w'
/-! What is few and short, of what memory reads as. -/
def FewDP (l:List PDep):Prop:=l.length≤6∧∀ d ∈ l,d.name.length≤300∧(Nrm.Slim d.r→Nrm.tot d.r≤12)
theorem fewD_p (l:List MDep):FewD l↔FewDP (l.map MDep.p):=by
 unfold FewD FewDP
 rw [List.length_map]
 simp only [List.mem_map,forall_exists_index,and_imp,forall_apply_eq_imp_iff₂]
 exact Iff.rfl
def FewRP (r:PRel):Prop:=r.v.pre.length≤20∧r.v.build.length≤20∧FewDP r.needs∧FewDP r.bans
theorem fewR_p (r:MRel):FewRel r↔FewRP r.p:=by
 unfold FewRel FewRP; rw [fewD_p,fewD_p]; exact Iff.rfl
def FewPP (p:PPack):Prop:=p.name.length≤300∧p.rels.length≤6∧∀ r ∈ p.rels,FewRP r
theorem fewX_p (x:List MPack):FewX x↔(x.map MPack.p).length≤6∧∀ p ∈ x.map MPack.p,FewPP p:=by
 rw [List.length_map]
 simp only [List.mem_map,forall_exists_index,and_imp,forall_apply_eq_imp_iff₂]
 constructor
 ·intro h
  refine ⟨h.len,fun p hp=>⟨(h.pack p hp).1,by have:=(h.pack p hp).2; simpa [MPack.p] using this,fun r hr=>?_⟩⟩
  obtain ⟨r0,h0,rfl⟩:=List.mem_map.1 hr
  exact (fewR_p r0).1 (h.rel p hp r0 h0)
 ·rintro ⟨h1,h2⟩
  exact ⟨h1,fun p hp=>⟨(h2 p hp).1,by have:=(h2 p hp).2.1; simpa [MPack.p] using this⟩,fun p hp r hr=>(fewR_p r).2 ((h2 p hp).2.2 r.p (List.mem_map.2 ⟨r,hr,rfl⟩))⟩
theorem plain_few {x y:List MPack} (h:PlainOf (x.map MPack.p) (y.map MPack.p)) (hx:FewX x):FewX y:=by
 rw [fewX_p] at hx ⊢
 refine ⟨by rw [plain_len h]; exact hx.1,?_⟩
 obtain ⟨z,hl,hz,hs⟩:=h
 intro q hq
 obtain ⟨p,hp,h1,h2⟩:=mid_mem hl hz (hs.perm.mem_iff.1 hq)
 have:=hx.2 p hp
 exact ⟨by rw [h1]; exact this.1,by rw [h2.perm.length_eq]; exact this.2.1,fun r hr=>this.2.2 r (h2.perm.mem_iff.1 hr)⟩
theorem few_modest {x:List MPack} (h:FewX x):Modest x :=
 ⟨fun p hp=>by have:=(h.pack p hp).1; omega,fun p hp r hr=>by have a:=(h.rel p hp r hr).2.2.1.1; have b:=(h.rel p hp r hr).2.2.2.1; omega,fun p hp r hr d hd=>by
  rcases List.mem_append.1 hd with g | g
  ·have:=((h.rel p hp r hr).2.2.1.2 d g).1; omega
  ·have:=((h.rel p hp r hr).2.2.2.2 d g).1; omega⟩
theorem fewD_none:FewD []:=⟨by simp,fun p hp=>by cases hp⟩
theorem DRow.none_ (w:World) (S:Nat→Prop):DRow w S none 0 []:=⟨KRow.none_ _ _ _,fun d hd=>by cases hd⟩
theorem SPRow.none_ (w:World) (S:Nat→Prop):SPRow w S none 0 []:=⟨KRow.none_ _ _ _,fun d hd=>by cases hd⟩
end Go.Proofs.YtgakcdcfblgagaaGreatDoor.Model
