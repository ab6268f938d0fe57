/-
  What the theorem of the last text needs of these: MoBans. Conditions: as each theorem states.
-/
import Derived.Test.YtnpjklaaokiikaaGreatDoorSvA1
import Derived.Test.YtnpjklaaokiikaaGreatDoorSvA23
import Derived.Test.YtnpjklaaokiikaaGreatDoorSvA26
set_option maxRecDepth 100000
set_option maxHeartbeats 25600000
namespace Go.Proofs.YtnpjklaaokiikaaGreatDoor.Model
open Go.RowKit Num Ident Semver Fr
open Range (Rng noRng RV KeepS LtB LenOk goodR wt)
open KR (KRow AtV)
open Name (isName)
open Nrm (hasR inV)

def banK (pn:List UInt8) (v:Ver) (d:PDep):Int:=if depE d≠0 then depE d else if d.name=pn∧hasR d.r v=true then 18 else 0
theorem banK_dep {pn:List UInt8} {v:Ver} {d:PDep} (h:depE d≠0):banK pn v d=depE d:=by unfold banK; rw [if_pos h]
theorem banK_yes {pn:List UInt8} {v:Ver} {d:PDep} (h:depE d=0) (g:d.name=pn) (q:hasR d.r v=true):banK pn v d=18:=by unfold banK; rw [if_neg (fun k=>k h),if_pos ⟨g,q⟩]
theorem banK_no {pn:List UInt8} {v:Ver} {d:PDep} (h:depE d=0) (g:¬ (d.name=pn∧hasR d.r v=true)):banK pn v d=0:=by unfold banK; rw [if_neg (fun k=>k h),if_neg g]
theorem few_wt {d:MDep} (h:FewP d) (hs:Nrm.Slim d.r):wt d.r≤12:=Nat.le_trans (Nrm.wt_tot d.r) (h.2 hs)
theorem ban1_any (d:MDep) (pn:List UInt8) (r:MRel) (nb rb:Nat) (B:Nat) (w:World) (hd:DepOk w (LtB B) d) (hfew:FewP d) (hv:VerOk w (LtB B) r.ver) (hn:AtV w nb [.string (Ident.mk pn)]) (hr:AtV w rb [.int .u64 r.ver.v.a,.int .u64 r.ver.v.b,.int .u64 r.ver.v.c,.slice r.ver.A r.ver.v.pre.length r.ver.c,.slice r.ver.B r.ver.v.build.length r.ver.d,.bool r.yanked,.slice r.N r.needs.length r.nc,.slice r.B r.bans.length r.bc]) (hB:B≤w.heap.size) :
  Calls Tryz.prog 150 #[d.agg,.pointer (some ⟨nb,0,none⟩),.pointer (some ⟨rb,0,none⟩)] w fun e w'=>e=.returned (.int .i64 (banK pn r.ver.v d.p))∧Below w.heap.size w w':=by
 have HF:=Lib.hid hfew
 have HE1:=Lib.hid (fun h=>banK_dep (pn:=pn) (v:=r.ver.v) (d:=d.p) h)
 have HE2:=Lib.hid (fun h g q=>banK_yes (pn:=pn) (v:=r.ver.v) (d:=d.p) h g q)
 have HE3:=Lib.hid (fun h g=>banK_no (pn:=pn) (v:=r.ver.v) (d:=d.p) h g)
 obtain ⟨W0,hW,hav,hb0⟩:∃ W,W=w.alloc (.cells #[.string (Ident.mk d.name),d.x.kind,d.x.v.a,d.x.v.b,d.x.v.c,.slice d.x.A d.x.v.pre.length d.x.c,.slice d.x.B d.x.v.build.length d.x.d,.slice d.x.L d.x.n d.x.e] 57)∧AtV W w.heap.size [.string (Ident.mk d.name),.int .i64 d.x.kind,.int .u64 d.x.v.a,.int .u64 d.x.v.b,.int .u64 d.x.v.c,.slice d.x.A d.x.v.pre.length d.x.c,.slice d.x.B d.x.v.build.length d.x.d,.slice d.x.L d.x.n d.x.e]∧Below w.heap.size w W:=⟨_,rfl,AtV.new w _ _,(Below.refl _ _).alloc (Nat.le_refl _) _⟩
 have HAV:=Lib.hid hav
 have HB0:=Lib.hid hb0
 have HD0:=Lib.hid (hd.keep (KeepS.of_below (S:=LtB B) hb0))
 have HV0:=Lib.hid (hv.keep (KeepS.of_below (S:=LtB B) hb0))
 have HN0:=Lib.hid (hn.kept hb0 hn.lt)
 have HR0:=Lib.hid (hr.kept hb0 hr.lt)
 have HLB:Hid (B≤W0.heap.size):=Nat.le_trans hB hb0.size
 clear hav hb0 hd hv hn hr hfew
 obtain ⟨bd,hbd⟩:∃ bd,w.heap.size=bd:=⟨_,rfl⟩
 unfold MDep.agg
 go_enter Tryz.func150,Tryz.ntmps150
 go_upto_region 1 with (fail)
 rw [← hW]
 clear hW
 rw [hbd] at HAV
 clear hbd hB
 have c0:=HAV.out.at_ 0 _ rfl
 have c1:=HAV.out.at_ 1 _ rfl
 have c2:=HAV.out.at_ 2 _ rfl
 have c3:=HAV.out.at_ 3 _ rfl
 have c4:=HAV.out.at_ 4 _ rfl
 have c5:=HAV.out.at_ 5 _ rfl
 have c6:=HAV.out.at_ 6 _ rfl
 have c7:=HAV.out.at_ 7 _ rfl
 go_wp2_with fail
 refine (depFault_any d B _ HD0.out HLB.out).mono ?_
 rintro e W1 ⟨rfl,hb⟩
 have HB1:=Lib.hid (HB0.out.trans (hb.mono HB0.out.size))
 have HAV1:=Lib.hid (HAV.out.kept hb HAV.out.lt)
 have HD1:=Lib.hid (HD0.out.keep (KeepS.of_below (S:=LtB B) hb))
 have HV1:=Lib.hid (HV0.out.keep (KeepS.of_below (S:=LtB B) hb))
 have HN1:=Lib.hid (HN0.out.kept hb HN0.out.lt)
 have HR1:=Lib.hid (HR0.out.kept hb HR0.out.lt)
 have HL1:Hid (B≤W1.heap.size):=Nat.le_trans HLB.out hb.size
 clear hb c0 c1 c2 c3 c4 c5 c6 c7
 obtain ⟨q,hq⟩:∃ q,depE d.p=q:=⟨_,rfl⟩
 rw [hq] at HE1 HE2 HE3
 rw [hq]
 clear hq
 by_cases h0:q=0
 ·subst h0
  have c0:=HAV1.out.at_ 0 _ rfl
  have e0:=HN1.out.at_ 0 _ rfl
  by_cases hnq:d.name=pn
  ·have hbe:((Ident.mk d.name).toList == (Ident.mk pn).toList)=true:=by rw [hnq]; exact mk_eq _
   have HNQ:=Lib.hid hnq
   clear hnq
   have c1:=HAV1.out.at_ 1 _ rfl
   have c2:=HAV1.out.at_ 2 _ rfl
   have c3:=HAV1.out.at_ 3 _ rfl
   have c4:=HAV1.out.at_ 4 _ rfl
   have c5:=HAV1.out.at_ 5 _ rfl
   have c6:=HAV1.out.at_ 6 _ rfl
   have c7:=HAV1.out.at_ 7 _ rfl
   have f0:=HR1.out.at_ 0 _ rfl
   have f1:=HR1.out.at_ 1 _ rfl
   have f2:=HR1.out.at_ 2 _ rfl
   have f3:=HR1.out.at_ 3 _ rfl
   have f4:=HR1.out.at_ 4 _ rfl
   obtain ⟨hs,hhs⟩:∃ hs,hasR d.r r.ver.v=hs:=⟨_,rfl⟩
   have HHS:=Lib.hid hhs
   go_wp2_with fail
   refine (Nrm.has_norm d.r d.x B r.ver.v r.ver.A r.ver.c r.ver.B r.ver.d _ HD1.out.lies HL1.out HD1.out.len (fun _=>by have:=few_wt HF.out HD1.out.slim; omega) HV1.out.pre HV1.out.build ⟨HV1.out.fit.pre,HV1.out.fit.build,HV1.out.fit.pres,HV1.out.fit.builds⟩).mono ?_
   rw [hhs]
   clear hhs
   rintro e W2 ⟨rfl,hb⟩
   have HB2:=Lib.hid (HB1.out.trans (hb.mono HB1.out.size))
   clear hb c1 c2 c3 c4 c5 c6 c7 f0 f1 f2 f3 f4 c0 e0
   cases hs
   ·have HZ:=Lib.hid (HE3.out (by trivial) (fun g=>by have h:hasR d.r r.ver.v=true:=g.2; rw [HHS.out] at h; cases h))
    go_wp2
    go_ret
    exact ⟨by rw [HZ.out]; rfl,HB2.out⟩
   ·have HZ:=Lib.hid (HE2.out (by trivial) HNQ.out HHS.out)
    go_wp2
    go_ret
    exact ⟨by rw [HZ.out]; rfl,HB2.out⟩
  ·have hbe:((Ident.mk d.name).toList == (Ident.mk pn).toList)=false:=mk_ne hnq
   have HZ:=Lib.hid (HE3.out (by trivial) (fun g=>hnq g.1))
   clear hnq
   go_wp2
   go_ret
   exact ⟨by rw [HZ.out]; rfl,HB1.out⟩
 ·have hne:(q == 0)=false:=by simpa using h0
  have HZ:=Lib.hid (HE1.out h0)
  clear h0
  go_wp2
  go_ret
  exact ⟨by rw [HZ.out]; rfl,HB1.out⟩
def depsF (pn:List UInt8) (r:PRel):Option (Nat × Int):=firstG (fun j d=>toO (banE pn r.v r.needs.length j d)) 0 (r.needs ++ r.bans)
theorem firstG_shift {α β:Type} (f:Nat→α→Option β):∀ (l:List α) (m:Nat),firstG f m l=(firstG (fun k=>f (m+k)) 0 l).map fun p=>(m+p.1,p.2)
 | [],_=>rfl
 | x :: l,m=>by
  rw [firstG,firstG]
  show (match f m x with | some b=>some (m,b) | none=>firstG f (m+1) l)=Option.map _ (match f (m+0) x with | some b=>some (0,b) | none=>firstG (fun k=>f (m+k)) (0+1) l)
  rw [Nat.add_zero]
  cases f m x with
  | some b=>rfl
  | none =>
   show firstG f (m+1) l=Option.map _ (firstG (fun k=>f (m+k)) 1 l)
   rw [firstG_shift f l (m+1),firstG_shift (fun k=>f (m+k)) l 1,Option.map_map]
   have e:(fun k=>f (m+1+k))=(fun k=>f (m+(1+k))):=by funext k; rw [Nat.add_assoc]
   rw [e]
   congr 1
   funext p
   show (m+1+p.1,p.2)=(m+(1+p.1),p.2)
   rw [Nat.add_assoc]
theorem firstG_append {α β:Type} (f:Nat→α→Option β):∀ (a b:List α) (m:Nat),firstG f m (a ++ b)=(firstG f m a).or (firstG f (m+a.length) b)
 | [],b,m=>rfl
 | x :: a,b,m=>by
  rw [List.cons_append,firstG,firstG]
  cases f m x with
  | some y=>rfl
  | none =>
   show firstG f (m+1) (a ++ b)=_
   rw [firstG_append f a b (m+1),List.length_cons,Nat.add_assoc,Nat.add_comm 1 a.length]
theorem firstG_congr {α β:Type} [Inhabited α] {f g:Nat→α→Option β}:∀ (l:List α) (m:Nat),(∀ k,k<l.length→f (m+k) (l.getD k default)=g (m+k) (l.getD k default))→firstG f m l=firstG g m l
 | [],_,_=>rfl
 | x :: l,m,h=>by
  have h0:f m x=g m x:=h 0 (Nat.succ_pos _)
  rw [firstG,firstG,h0]
  cases g m x with
  | some y=>rfl
  | none=>exact firstG_congr l (m+1) fun k hk=>by have:=h (k+1) (by simpa using hk); rw [Nat.add_right_comm]; exact this
theorem firstE_some' {α:Type} (g:Nat→α→Int):∀ (l:List α) (m:Nat) (p:Nat × Int),firstG (fun k d=>toO (g k d)) m l=some p→p.2≠0∧p.1<m+l.length
 | [],_,_,h=>by cases h
 | x :: l,m,p,h=>by
  rw [firstG] at h
  by_cases h0:g m x=0
  ·have e:toO (g m x)=none:=toO_none.2 h0
   rw [e] at h
   have:=firstE_some' g l (m+1) p h
   exact ⟨this.1,by rw [List.length_cons]; omega⟩
  ·have e:toO (g m x)=some (g m x):=toO_some h0
   rw [e] at h
   injection h with h
   subst h
   exact ⟨h0,by rw [List.length_cons]; omega⟩
theorem firstE_some {α:Type} {g:Nat→α→Int} {l:List α} {p:Nat × Int} (h:firstG (fun k d=>toO (g k d)) 0 l=some p):p.2≠0∧p.1<l.length:=by
 have:=firstE_some' g l 0 p h
 rwa [Nat.zero_add] at this
theorem rootsF_ne {l:List PDep} {p:Nat × Int} (h:rootsF l=some p):p.2≠0:=(firstE_some (g:=fun _ d=>depE d) h).1
theorem depsF_eq (pn:List UInt8) (r:PRel) (hv:goodV r.v=true):depsF pn r=(rootsF r.needs).or ((firstG (fun _ d=>toO (banK pn r.v d)) 0 r.bans).map fun p=>(r.needs.length+p.1,p.2)):=by
 unfold depsF rootsF
 rw [firstG_append,Nat.zero_add]
 congr 1
 ·refine firstG_congr _ _ fun k hk=>?_
  rw [Nat.zero_add]
  have e:banE pn r.v r.needs.length k (r.needs.getD k default)=depE (r.needs.getD k default):=by
   unfold banE
   by_cases h:depE (r.needs.getD k default)≠0
   ·rw [if_pos h]
   ·rw [if_neg h,if_neg (fun g=>by have:=g.1; omega),Decidable.not_not.1 h]
  rw [e]
 ·rw [firstG_shift]
  congr 1
  refine firstG_congr _ _ fun k hk=>?_
  rw [Nat.zero_add]
  show toO (banE pn r.v r.needs.length (r.needs.length+k) (r.bans.getD k default))=_
  have e:banE pn r.v r.needs.length (r.needs.length+k) (r.bans.getD k default)=banK pn r.v (r.bans.getD k default):=by
   unfold banE banK
   by_cases h0:depE (r.bans.getD k default)≠0
   ·rw [if_pos h0,if_pos h0]
   ·rw [if_neg h0,if_neg h0]
    have h:=Decidable.not_not.1 h0
    have hg:goodR (r.bans.getD k default).r 0=true:=by
     unfold depE at h
     by_cases h1:isName (r.bans.getD k default).name=false
     ·rw [if_pos h1] at h; cases h
     ·rw [if_neg h1] at h
      by_cases h2:goodR (r.bans.getD k default).r 0=false
      ·rw [if_pos h2] at h; cases h
      ·rwa [Bool.not_eq_false] at h2
    rw [Nrm.hasR_good hg hv]
    by_cases h3:(r.bans.getD k default).name=pn∧inV (r.bans.getD k default).r r.v=true
    ·rw [if_pos ⟨Nat.le_add_right _ _,h3⟩,if_pos h3]
    ·rw [if_neg (fun g=>h3 g.2),if_neg h3]
  rw [e]
theorem depsFault_any (pn:List UInt8) (r:MRel) (B:Nat) (w:World) (hr:RelOk w (LtB B) r) (h1:FewD r.needs) (h2:FewD r.bans) (hg:goodV r.ver.v=true) (hB:B≤w.heap.size) :
  Calls Tryz.prog 96 #[.string (Ident.mk pn),r.agg] w fun e w'=>e=.returned (out2V (depsF pn r.p))∧Below w.heap.size w w':=by
 have HEQ:=Lib.hid (depsF_eq pn r.p hg)
 obtain ⟨W0,hW,hnv,hav,hb0⟩:∃ W,W=(w.alloc (.cells #[.string (Ident.mk pn)] 9)).alloc (.cells #[r.ver.v.a,r.ver.v.b,r.ver.v.c,.slice r.ver.A r.ver.v.pre.length r.ver.c,.slice r.ver.B r.ver.v.build.length r.ver.d,.bool r.yanked,.slice r.N r.needs.length r.nc,.slice r.B r.bans.length r.bc] 36)∧AtV W w.heap.size [.string (Ident.mk pn)]∧AtV W (w.heap.size+1) [.int .u64 r.ver.v.a,.int .u64 r.ver.v.b,.int .u64 r.ver.v.c,.slice r.ver.A r.ver.v.pre.length r.ver.c,.slice r.ver.B r.ver.v.build.length r.ver.d,.bool r.yanked,.slice r.N r.needs.length r.nc,.slice r.B r.bans.length r.bc]∧Below w.heap.size w W :=
  ⟨_,rfl,(AtV.new w _ _).kept ((Below.refl _ _).alloc (Nat.le_refl _) _) (by simp),(by have h:=AtV.new (w.alloc (.cells #[.string (Ident.mk pn)] 9)) 36 [.int .u64 r.ver.v.a,.int .u64 r.ver.v.b,.int .u64 r.ver.v.c,.slice r.ver.A r.ver.v.pre.length r.ver.c,.slice r.ver.B r.ver.v.build.length r.ver.d,.bool r.yanked,.slice r.N r.needs.length r.nc,.slice r.B r.bans.length r.bc]; rwa [size_alloc] at h),((Below.refl _ _).alloc (Nat.le_refl _) _).alloc (by simp) _⟩
 have HNV:=Lib.hid hnv
 have HAV:=Lib.hid hav
 have HB0:=Lib.hid hb0
 have HR0:=Lib.hid (hr.keep (KeepS.of_below (S:=LtB B) hb0))
 have HF:=Lib.hid h2
 have HF1:=Lib.hid h1.1
 have HL0:Hid (B≤W0.heap.size):=Nat.le_trans hB hb0.size
 clear hnv hav hb0 hr h1 h2 hg
 obtain ⟨nb,hnb⟩:∃ nb,w.heap.size=nb:=⟨_,rfl⟩
 rw [hnb] at HAV HNV
 unfold MRel.agg
 go_enter Tryz.func96,Tryz.ntmps96
 go_upto_region 1 with (fail)
 rw [← hW]
 try rw [hnb]
 clear hW hnb hB
 have c6:=HAV.out.at_ 6 _ rfl
 go_wp2_with fail
 refine (roots_any r.N r.needs.length r.nc r.needs B _ HR0.out.needs HL0.out (by have:=HR0.out.nc; exact Nat.le_trans this.1 this.2)).mono ?_
 rintro e W1 ⟨rfl,hb⟩
 have HB1:=Lib.hid (HB0.out.trans (hb.mono HB0.out.size))
 have HAV1:=Lib.hid (HAV.out.kept hb HAV.out.lt)
 have HNV1:=Lib.hid (HNV.out.kept hb HNV.out.lt)
 have HR1:=Lib.hid (HR0.out.keep (KeepS.of_below (S:=LtB B) hb))
 have HL1:Hid (B≤W1.heap.size):=Nat.le_trans HL0.out hb.size
 clear hb c6
 have hrp:r.p.needs=r.needs.map MDep.p:=rfl
 rw [← hrp]
 obtain ⟨q,hq⟩:∃ q,rootsF r.p.needs=q:=⟨_,rfl⟩
 rw [hq] at HEQ ⊢
 have HQ:=Lib.hid hq
 clear hq hrp
 cases q with
 | some p =>
  have hpe:p.2≠0:=rootsF_ne HQ.out
  have HZ:Hid (depsF pn r.p=some p):=HEQ.out
  obtain ⟨k,e⟩:=p
  have hne:(e == 0)=false:=by simpa using hpe
  clear hpe
  unfold out2V out2
  go_wp2
  go_ret2
  exact ⟨by rw [HZ.out]; rfl,HB1.out⟩
 | none =>
  have HZ:Hid (depsF pn r.p=((firstG (fun _ d=>toO (banK pn r.ver.v d)) 0 (r.bans.map MDep.p)).map fun p=>(r.needs.length+p.1,p.2))):=by
   have:=HEQ.out
   rw [Option.none_or] at this
   have e:r.p.needs.length=r.needs.length:=List.length_map _
   rw [e] at this
   exact this
  have HP:Hid (∀ e w',FirstPost r.bans.length (fun k=>banK pn r.ver.v (r.bans.getD k default).p) (fun _ W=>Below W1.heap.size W1 W) (fun _ W=>Below W1.heap.size W1 W) e w'→e=.returned (out2V (firstG (fun _ d=>toO (banK pn r.ver.v d)) 0 (r.bans.map MDep.p)))∧Below W1.heap.size W1 w'):=fun e w' hp=>by
   have hq:=first_out (r.bans.map MDep.p) _ _ _ (by rw [List.length_map]; exact hp) (fun _ d=>banK pn r.ver.v d) (fun k hk=>by rw [List.length_map] at hk; rw [map_at MDep.p r.bans hk])
   exact ⟨hq.1,by rcases hq.2 with ⟨k,_,hb,_⟩ | ⟨hb,_⟩ <;> exact hb⟩
  have hfst:Calls Tryz.prog 119 #[.slice r.B r.bans.length r.bc,.func (.func 150) #[] #[.pointer (some ⟨nb,0,none⟩),.pointer (some ⟨nb+1,0,none⟩)]] W1 _:=firstDep_any 150 #[.pointer (some ⟨nb,0,none⟩),.pointer (some ⟨nb+1,0,none⟩)] (enters_of Tryz.func150 (by kernel_rfl) rfl) r.B r.bans.length r.bc r.bans (fun k=>banK pn r.ver.v (r.bans.getD k default).p) (fun _ W=>Below W1.heap.size W1 W) (fun _ W=>Below W1.heap.size W1 W) (LtB B) W1 (by have:=HR1.out.bc; exact Nat.le_trans this.1 this.2)
   (fun k W _ hb=>HR1.out.bans.keep (KeepS.of_below hb))
   (fun k W hk hb=>(ban1_any (r.bans.getD k default) pn r nb (nb+1) B W ((HR1.out.bans.keep (KeepS.of_below hb)).ok _ (HR1.out.bans.row.mem hk)) (HF.out.2 _ (HR1.out.bans.row.mem hk)) (HR1.out.ver.keep (KeepS.of_below hb)) (HNV1.out.kept hb HNV1.out.lt) (HAV1.out.kept hb HAV1.out.lt) (Nat.le_trans HL1.out hb.size)).mono fun e w' ⟨he,hb'⟩=>⟨he,fun _=>hb.trans (hb'.mono hb.size),fun _=>hb.trans (hb'.mono hb.size)⟩) (Below.refl _ _)
  have c7:=HAV1.out.at_ 7 _ rfl
  have d0:W1.cell? ⟨nb+1,6,none⟩=some (.slice r.N r.needs.length r.nc):=HAV1.out.at_ 6 _ rfl
  unfold out2V out2
  go_wp2_with fail
  refine hfst.mono ?_
  intro e W2 hp
  obtain ⟨he,hb⟩:=HP.out e W2 hp
  subst he
  clear hp
  have HB2:=Lib.hid (HB1.out.trans (hb.mono HB1.out.size))
  have HAV2:=Lib.hid (HAV1.out.kept hb HAV1.out.lt)
  clear hb c7 d0
  obtain ⟨q,hq⟩:∃ q,firstG (fun _ d=>toO (banK pn r.ver.v d)) 0 (r.bans.map MDep.p)=q:=⟨_,rfl⟩
  rw [hq] at HZ ⊢
  have HQ2:=Lib.hid hq
  clear hq
  cases q with
  | none =>
   unfold out2V out2
   go_wp2
   go_ret2
   exact ⟨by rw [HZ.out]; rfl,HB2.out⟩
  | some p =>
   have hpe:p.2≠0∧p.1<(r.bans.map MDep.p).length:=firstE_some HQ2.out
   obtain ⟨k,e⟩:=p
   have hne:(e == 0)=false:=by simpa using hpe.1
   have hk:k<r.bans.length:=by have:=hpe.2; rwa [List.length_map] at this
   clear hpe
   have c6:=HAV2.out.at_ 6 _ rfl
   have hl1:r.needs.length≤9223372036854775807:=by have:=HR1.out.nc; unfold maxLen at this; omega
   have HX:Hid (r.needs.length+r.bans.length≤100):=by have a:=HF1.out; have b:=HF.out.1; unfold Hid; omega
   have hx2:(k:Int)+(r.needs.length:Int)≤100:=by have:=HX.out; omega
   unfold out2V out2
   go_wp2
   go_ret2
   refine ⟨?_,HB2.out⟩
   rw [HZ.out]
   show Ending.returned (.tuple #[.int .i64 ((k:Int)+(r.needs.length:Int)),.int .i64 e])=.returned (.tuple #[.int .i64 ((r.needs.length+k:Nat):Int),.int .i64 e])
   rw [Int.natCast_add,Int.add_comm]
end Go.Proofs.YtnpjklaaokiikaaGreatDoor.Model
