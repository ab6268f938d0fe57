/-
  What the theorem of the last text needs of these: NmJoined, NmEmpty, NmRefFew, NmPcMem. Conditions: as each theorem states.
-/
import Derived.Test.YtgfbflnhjpbceaaGreatDoorSetB1
import Derived.Test.YtgfbflnhjpbceaaGreatDoorSetB8
import Derived.Test.YtgfbflnhjpbceaaGreatDoorSetB15
import Derived.Test.YtgfbflnhjpbceaaGreatDoorSetB18
import Derived.Test.YtgfbflnhjpbceaaGreatDoorSetB20
import Derived.Test.YtgfbflnhjpbceaaGreatDoorSetB22
import Derived.Test.YtgfbflnhjpbceaaGreatDoorSetB32
import Derived.Test.YtgfbflnhjpbceaaGreatDoorSetB33
set_option maxRecDepth 100000
set_option maxHeartbeats 25600000
namespace Go.Proofs.YtgfbflnhjpbceaaGreatDoor.Nrm
open Go.RowKit Num Ident Semver Prec Span
open Range (Rng noRng goodR goodL fits RV RAt RgRow LtB wt wtL wtL_len wt_mem KeepS zeroRV)
def RngPost (w:World) (S:Nat→Prop) (r:Rng) (e:Ending) (w':World):Prop:=∃ x:RV,e=.returned x.agg∧Range.Lies w' S r x∧Below w.heap.size w w'
theorem keepR {w W:World} {S:Nat→Prop} (hS:∀ g,S g→g<w.heap.size) (hb:Below w.heap.size w W) (x:RV):KeepS S w (Range.setR W w.heap.size x) :=
 (KeepS.of_below hb).trans (Range.setR_keep (fun h=>Nat.lt_irrefl _ (hS _ h)) x)
theorem lies_lt {w:World} {S:Nat→Prop} {L:Option Addr} {n:Nat} {l:List Rng} (h:RgRow w S L n l):RgRow w (fun g=>S g∧g<w.heap.size) L n l:=by
 obtain ⟨f,h1,h2,h3⟩:=h
 refine ⟨f,h1,fun h0=>?_,fun j hj=>(h3 j hj).mono fun g hS hg=>⟨hS,hg⟩⟩
 obtain ⟨b,o,e,hb,hc⟩:=h2 h0
 exact ⟨b,o,e,⟨hb,(hc 0 h0).lt⟩,hc⟩
theorem joined_any (k:Int) (L:Option Addr) (n e:Nat) (l:List Rng) (S:Nat→Prop) (w:World) (hl0:RgRow w S L n l) (he:n≤e) (hnil:L=none→e=0) (hn:n≤1000000) :
  Calls Tryz.prog 40 #[.int .i64 k,.slice L n e] w (RngPost w S (few k l)):=by
 have hl:=lies_lt hl0
 have HL:=Lib.hid hl
 have HNil:=Lib.hid hnil
 have hln:l.length=n:=by obtain ⟨f,h1,_⟩:=hl; exact h1
 have HB:Hid (Below w.heap.size w (w.alloc ())):=(Below.refl _ _).alloc (Nat.le_refl _) _
 have HR:Hid (RAt (w.alloc ()) w.heap.size (zeroRV 0)):=RAt.new w _ (zeroRV 0)
 have HM:Hid (∀ (w':World) (q:Rng) (x:RV),Range.Lies w' (fun g=>S g∧g<w.heap.size) q x→Range.Lies w' S q x):=fun w' q x h=>h.mono fun g hS _=>hS.1
 clear hl hl0 hnil
 go_enter Tryz.func40,Tryz.ntmps40
 go_upto_region 1 with (fail)
 generalize (w.alloc ())=W at HB HR ⊢
 obtain ⟨y1,y2,c0,c1,c2,c3,c4,c5,c6⟩:=HR.out
 simp only [zeroRV] at c0 c1 c2 c3 c4 c5 c6
 by_cases h0:n=0
 ·obtain rfl:l=[]:=List.eq_nil_of_length_eq_zero (hln.trans h0)
  have q0:((n:Int) == 0)=true:=by simp [h0]
  clear h0
  have HK9:=Lib.hid (Range.setR_at (x:=(zeroRV 0)) HR.out)
  have HB9:Hid (Below w.heap.size w (Range.setR W w.heap.size (zeroRV 0))):=HB.out.trans ((Range.setR_below w.heap.size (Nat.le_refl _) (zeroRV 0)).mono (Nat.le_refl _))
  have HS9:Hid (Range.Lies (Range.setR W w.heap.size (zeroRV 0)) S (few k []) (zeroRV 0)):=by rw [few_none]; exact Range.Lies.zero _ _ 0
  go_wp2
  change bodyPost _ _ _ _ _ (Range.setR W w.heap.size (zeroRV 0))
  generalize Range.setR W w.heap.size (zeroRV 0)=W9 at HK9 HB9 HS9 ⊢
  obtain ⟨_,_,z0,z1,z2,z3,z4,z5,z6⟩:=HK9.out
  exact bodyPost_ret (v:=.agg #[.int .i64 (zeroRV 0).kind,.int .u64 ((zeroRV 0).v.a),.int .u64 ((zeroRV 0).v.b),.int .u64 ((zeroRV 0).v.c),.slice (zeroRV 0).A (zeroRV 0).v.pre.length (zeroRV 0).c,.slice (zeroRV 0).B (zeroRV 0).v.build.length (zeroRV 0).d,.slice (zeroRV 0).L (zeroRV 0).n (zeroRV 0).e]) (by simp [results,Tryz.results40,go_sem,z0,z1,z2,z3,z4,z5,z6]) rfl ⟨(zeroRV 0),rfl,HS9.out,HB9.out⟩
 ·have q0:((n:Int) == 0)=false:=by simp [h0]
  by_cases h1:n=1
  ·obtain ⟨q,rfl⟩:=List.length_eq_one_iff.1 (hln.trans h1)
   obtain ⟨b,o,y,hLe,hSb,hcl,hy⟩:=HL.out.one (show 0<n by omega)
   have hy':Range.Lies w (fun g=>S g∧g<w.heap.size) q y:=hy
   simp only [Nat.zero_mul,Nat.add_zero] at hcl
   obtain ⟨e0,e1,e2,e3,e4,e5,e6⟩:=(hcl.keep (KeepS.of_below (S:=fun g=>S g∧g<w.heap.size) HB.out) hSb).cells
   have q1:((n:Int) == 1)=true:=by simp [h1]
   have hne:b≠w.heap.size:=Nat.ne_of_lt hSb.2
   rw [hLe]
   clear h0 hcl hy hLe hSb
   have HK9:=Lib.hid (Range.setR_at (x:=y) HR.out)
   have HB9:Hid (Below w.heap.size w (Range.setR W w.heap.size y)):=HB.out.trans ((Range.setR_below w.heap.size (Nat.le_refl _) y).mono (Nat.le_refl _))
   have HS9:Hid (Range.Lies (Range.setR W w.heap.size y) S (few k [q]) y):=by rw [few_one]; exact HM.out _ _ _ (hy'.keep (keepR (fun g h=>h.2) HB.out y))
   go_wp2
   change bodyPost _ _ _ _ _ (Range.setR W w.heap.size y)
   generalize Range.setR W w.heap.size y=W9 at HK9 HB9 HS9 ⊢
   obtain ⟨_,_,z0,z1,z2,z3,z4,z5,z6⟩:=HK9.out
   exact bodyPost_ret (v:=.agg #[y.kind,y.v.a,y.v.b,y.v.c,.slice y.A y.v.pre.length y.c,.slice y.B y.v.build.length y.d,.slice y.L y.n y.e]) (by simp [results,Tryz.results40,go_sem,z0,z1,z2,z3,z4,z5,z6]) rfl ⟨y,rfl,HS9.out,HB9.out⟩
  ·have q1:((n:Int) == 1)=false:=beq_eq_false_iff_ne.2 (by omega)
   have h2:2≤l.length:=by omega
   clear h0 h1
   have HK9:=Lib.hid (Range.setR_at (x:=(⟨k,noVer,none,0,none,0,L,n,e⟩:RV)) HR.out)
   have HB9:Hid (Below w.heap.size w (Range.setR W w.heap.size (⟨k,noVer,none,0,none,0,L,n,e⟩:RV))):=HB.out.trans ((Range.setR_below w.heap.size (Nat.le_refl _) (⟨k,noVer,none,0,none,0,L,n,e⟩:RV)).mono (Nat.le_refl _))
   have HS9:Hid (Range.Lies (Range.setR W w.heap.size (⟨k,noVer,none,0,none,0,L,n,e⟩:RV)) S (few k l) (⟨k,noVer,none,0,none,0,L,n,e⟩:RV)):=by rw [few_more k h2]; exact HM.out _ _ _ (Range.Lies.many k (HL.out.keep (keepR (fun g h=>h.2) HB.out (⟨k,noVer,none,0,none,0,L,n,e⟩:RV))) he HNil.out)
   go_wp2
   change bodyPost _ _ _ _ _ (Range.setR W w.heap.size (⟨k,noVer,none,0,none,0,L,n,e⟩:RV))
   generalize Range.setR W w.heap.size (⟨k,noVer,none,0,none,0,L,n,e⟩:RV)=W9 at HK9 HB9 HS9 ⊢
   obtain ⟨_,_,z0,z1,z2,z3,z4,z5,z6⟩:=HK9.out
   exact bodyPost_ret (v:=.agg #[.int .i64 k,.int .u64 0,.int .u64 0,.int .u64 0,.slice none 0 0,.slice none 0 0,.slice L n e]) (by simp [results,Tryz.results40,go_sem,z0,z1,z2,z3,z4,z5,z6,noVer]) rfl ⟨(⟨k,noVer,none,0,none,0,L,n,e⟩:RV),rfl,HS9.out,HB9.out⟩
end Go.Proofs.YtgfbflnhjpbceaaGreatDoor.Nrm
namespace Go.Proofs.YtgfbflnhjpbceaaGreatDoor.Nrm
open Go.RowKit Num Ident Semver Prec Span
open Range (Rng noRng goodR goodL fits wt wtL RV RAt OpsTab Keep KeepS LtB zeroRV LenOk)
def EmPost (w:World) (r:Rng) (e:Ending) (w':World):Prop:=∃ b,e=.returned (.bool b)∧(goodR r 0=false→b=false)∧(goodR r 0=true→∃ (o:List Sp) (n:Nat),SetOf r o∧o.length=n∧b=((n:Int) == 0))∧Below w.heap.size w w'
theorem empty_any (r:Rng) (x:RV) (w:World) (hx:Range.Lies w (LtB w.heap.size) r x) (lo:LenOk r) (hw:goodR r 0=true→wt r≤1500) :
  Calls Tryz.prog 14 #[x.agg] w (EmPost w r):=by
 have HB0:Hid (Below w.heap.size w (w.alloc x)):=(Below.refl _ _).alloc (Nat.le_refl _) _
 have HR0:Hid (RAt (w.alloc x) w.heap.size x):=RAt.new w _ x
 unfold RV.agg
 go_enter Tryz.func14,Tryz.ntmps14
 go_upto_region 1 with (fail)
 generalize w.alloc x=W0 at HB0 HR0 ⊢
 obtain ⟨y1,y2,c0,c1,c2,c3,c4,c5,c6⟩:=HR0.out
 go_wp2_with fail
 refine (Range.goodIs_any r x w.heap.size W0 lo (hx.keep (KeepS.of_below (S:=LtB w.heap.size) HB0.out)) HB0.out.size).mono ?_
 rintro e W1 ⟨rfl,hb⟩
 have HB1:=Lib.hid (HB0.out.trans (hb.mono HB0.out.size))
 have HR1:=Lib.hid (HR0.out.kept hb HR0.out.1)
 clear hb y1 y2 c0 c1 c2 c3 c4 c5 c6 HB0 HR0
 obtain ⟨y1,y2,c0,c1,c2,c3,c4,c5,c6⟩:=HR1.out
 cases hg:goodR r 0 with
 | false =>
  have HE:Hid (EmPost w r (.returned (.bool false)) W1):=⟨false,rfl,fun _=>rfl,(fun h=>by rw [hg] at h; cases h),HB1.out⟩
  clear hg
  go_wp2
  go_ret
  exact HE.out
 | true =>
  have HG:=Lib.hid hg
  have hw1:=hw hg
  clear hg
  go_wp2_with fail
  refine (set_any (wt r) r x w.heap.size 0 W1 (Nat.le_refl _) hw1 (hx.keep (KeepS.of_below (S:=LtB w.heap.size) HB1.out)) HB1.out.size HG.out).mono ?_
  rintro e W2 ⟨A2,n2,d2,o2,rfl,q1,q2,q3,_,_,_,hb⟩
  have HB2:=Lib.hid (HB1.out.trans (hb.mono HB1.out.size))
  have HS:=Lib.hid q1
  have HN:=Lib.hid q3
  have hl:(o2.map RSp.sp).length=n2:=by rw [List.length_map,q1.1]
  clear hb y1 y2 c0 c1 c2 c3 c4 c5 c6 q1 q3
  have HE:Hid (EmPost w r (.returned (.bool ((n2:Int) == 0))) W2):=⟨_,rfl,(fun h=>by rw [HG.out] at h; cases h),fun _=>⟨_,n2,HN.out,hl,rfl⟩,HB2.out⟩
  go_wp2
  go_ret
  exact HE.out
def ROf (r:Rng) (o:List Sp):Prop:=if goodR r 0=true then SetOf r o else o=[]
theorem refOf_any (r:Rng) (x:RV) (w:World) (hx:Range.Lies w (LtB w.heap.size) r x) (lo:LenOk r) (hw:goodR r 0=true→wt r≤100) :
  Calls Tryz.prog 11 #[x.agg] w (RSetIn w (ROf r)):=by
 have HB0:Hid (Below w.heap.size w (w.alloc x)):=(Below.refl _ _).alloc (Nat.le_refl _) _
 have HR0:Hid (RAt (w.alloc x) w.heap.size x):=RAt.new w _ x
 unfold RV.agg
 go_enter Tryz.func11,Tryz.ntmps11
 go_upto_region 1 with (fail)
 generalize w.alloc x=W0 at HB0 HR0 ⊢
 obtain ⟨y1,y2,c0,c1,c2,c3,c4,c5,c6⟩:=HR0.out
 go_wp2_with fail
 refine (Range.refGoodR_full (wt r) r x w.heap.size 0 W0 (Nat.le_refl _) lo (hx.keep (KeepS.of_below (S:=LtB w.heap.size) HB0.out)) HB0.out.size (by omega)).mono ?_
 rintro e W1 ⟨rfl,hb⟩
 have HB1:=Lib.hid (HB0.out.trans (hb.mono HB0.out.size))
 have HR1:=Lib.hid (HR0.out.kept hb HR0.out.1)
 clear hb y1 y2 c0 c1 c2 c3 c4 c5 c6 HB0 HR0
 obtain ⟨y1,y2,c0,c1,c2,c3,c4,c5,c6⟩:=HR1.out
 cases hg:goodR r 0 with
 | false =>
  have HS:Hid (RSetIn w (ROf r) (.returned (.slice none 0 0)) W1):=⟨none,0,0,[],rfl,SpRow.none_ _ _,by unfold ROf; rw [hg]; rfl,Nat.le_refl _,fun _=>rfl,HB1.out⟩
  clear hg
  go_wp2
  go_ret
  exact HS.out
 | true =>
  have HG:=Lib.hid hg
  have hw1:=hw hg
  clear hg
  go_wp2_with fail
  refine (refOf_all (wt r) r x w.heap.size 0 W1 (Nat.le_refl _) hw1 lo (hx.keep (KeepS.of_below (S:=LtB w.heap.size) HB1.out)) HB1.out.size HG.out).mono ?_
  intro e w4 h4
  have HS:Hid (RSetIn w (ROf r) e w4):=h4.imp HB1.out fun o ho=>by unfold ROf; rw [HG.out]; exact ho
  obtain ⟨A4,n4,cc4,out4,rfl,q1,q2,q3,q4,q5⟩:=HS.out
  clear h4
  go_wp2
  go_ret
  exact HS.out
end Go.Proofs.YtgfbflnhjpbceaaGreatDoor.Nrm
namespace Go.Proofs.YtgfbflnhjpbceaaGreatDoor.Nrm
open Go.RowKit Num Ident Semver Prec Span
open Range (Rng noRng goodR goodL fits RV RAt WRow LtB wt wtL wtL_len wt_mem KeepS zeroRV)
def WPost (w:World) (S:Nat→Prop) (r:Rng) (e:Ending) (w':World):Prop:=∃ x:RV,e=.returned x.agg∧Range.Weak w' S r x∧Below w.heap.size w w'
theorem wrow_lt {w:World} {S:Nat→Prop} {L:Option Addr} {n:Nat} {l:List Rng} (h:WRow w S L n l):WRow w (fun g=>S g∧g<w.heap.size) L n l:=by
 obtain ⟨f,h1,h2,h3⟩:=h
 refine ⟨f,h1,fun h0=>?_,fun j hj=>(h3 j hj).mono fun g hS hg=>⟨hS,hg⟩⟩
 obtain ⟨b,o,e,hb,hc⟩:=h2 h0
 exact ⟨b,o,e,⟨hb,(hc 0 h0).lt⟩,hc⟩
theorem refFew_any (k:Int) (L:Option Addr) (n e:Nat) (l:List Rng) (S:Nat→Prop) (w:World) (hl0:WRow w S L n l) (hn:n≤1000000) :
  Calls Tryz.prog 36 #[.int .i64 k,.slice L n e] w (WPost w S (few k l)):=by
 have hl:=wrow_lt hl0
 have HL:=Lib.hid hl
 have hln:l.length=n:=by obtain ⟨f,h1,_⟩:=hl; exact h1
 have HB:Hid (Below w.heap.size w (w.alloc ())):=(Below.refl _ _).alloc (Nat.le_refl _) _
 have HR:Hid (RAt (w.alloc ()) w.heap.size (zeroRV 0)):=RAt.new w _ (zeroRV 0)
 have HM:Hid (∀ (w':World) (q:Rng) (x:RV),Range.Weak w' (fun g=>S g∧g<w.heap.size) q x→Range.Weak w' S q x):=fun w' q x h=>h.mono fun g hS _=>hS.1
 clear hl hl0
 go_enter Tryz.func36,Tryz.ntmps36
 go_upto_region 1 with (fail)
 generalize (w.alloc ())=W at HB HR ⊢
 obtain ⟨y1,y2,c0,c1,c2,c3,c4,c5,c6⟩:=HR.out
 simp only [zeroRV] at c0 c1 c2 c3 c4 c5 c6
 by_cases h0:n=0
 ·obtain rfl:l=[]:=List.eq_nil_of_length_eq_zero (hln.trans h0)
  have q0:((n:Int) == 0)=true:=by simp [h0]
  clear h0
  have HK9:=Lib.hid (Range.setR_at (x:=(zeroRV 0)) HR.out)
  have HB9:Hid (Below w.heap.size w (Range.setR W w.heap.size (zeroRV 0))):=HB.out.trans ((Range.setR_below w.heap.size (Nat.le_refl _) (zeroRV 0)).mono (Nat.le_refl _))
  have HS9:Hid (Range.Weak (Range.setR W w.heap.size (zeroRV 0)) S (few k []) (zeroRV 0)):=by rw [few_none]; exact Range.Weak.zero _ _ 0
  go_wp2
  change bodyPost _ _ _ _ _ (Range.setR W w.heap.size (zeroRV 0))
  generalize Range.setR W w.heap.size (zeroRV 0)=W9 at HK9 HB9 HS9 ⊢
  obtain ⟨_,_,z0,z1,z2,z3,z4,z5,z6⟩:=HK9.out
  exact bodyPost_ret (v:=.agg #[.int .i64 (zeroRV 0).kind,.int .u64 ((zeroRV 0).v.a),.int .u64 ((zeroRV 0).v.b),.int .u64 ((zeroRV 0).v.c),.slice (zeroRV 0).A (zeroRV 0).v.pre.length (zeroRV 0).c,.slice (zeroRV 0).B (zeroRV 0).v.build.length (zeroRV 0).d,.slice (zeroRV 0).L (zeroRV 0).n (zeroRV 0).e]) (by simp [results,Tryz.results36,go_sem,z0,z1,z2,z3,z4,z5,z6]) rfl ⟨(zeroRV 0),rfl,HS9.out,HB9.out⟩
 ·have q0:((n:Int) == 0)=false:=by simp [h0]
  by_cases h1:n=1
  ·obtain ⟨q,rfl⟩:=List.length_eq_one_iff.1 (hln.trans h1)
   obtain ⟨b,o,y,hLe,hSb,hcl,hy⟩:=HL.out.one (show 0<n by omega)
   have hy':Range.Weak w (fun g=>S g∧g<w.heap.size) q y:=hy
   simp only [Nat.zero_mul,Nat.add_zero] at hcl
   obtain ⟨e0,e1,e2,e3,e4,e5,e6⟩:=(hcl.keep (KeepS.of_below (S:=fun g=>S g∧g<w.heap.size) HB.out) hSb).cells
   have q1:((n:Int) == 1)=true:=by simp [h1]
   have hne:b≠w.heap.size:=Nat.ne_of_lt hSb.2
   rw [hLe]
   clear h0 hcl hy hLe hSb
   have HK9:=Lib.hid (Range.setR_at (x:=y) HR.out)
   have HB9:Hid (Below w.heap.size w (Range.setR W w.heap.size y)):=HB.out.trans ((Range.setR_below w.heap.size (Nat.le_refl _) y).mono (Nat.le_refl _))
   have HS9:Hid (Range.Weak (Range.setR W w.heap.size y) S (few k [q]) y):=by rw [few_one]; exact HM.out _ _ _ (hy'.keep (keepR (fun g h=>h.2) HB.out y))
   go_wp2
   change bodyPost _ _ _ _ _ (Range.setR W w.heap.size y)
   generalize Range.setR W w.heap.size y=W9 at HK9 HB9 HS9 ⊢
   obtain ⟨_,_,z0,z1,z2,z3,z4,z5,z6⟩:=HK9.out
   exact bodyPost_ret (v:=.agg #[y.kind,y.v.a,y.v.b,y.v.c,.slice y.A y.v.pre.length y.c,.slice y.B y.v.build.length y.d,.slice y.L y.n y.e]) (by simp [results,Tryz.results36,go_sem,z0,z1,z2,z3,z4,z5,z6]) rfl ⟨y,rfl,HS9.out,HB9.out⟩
  ·have q1:((n:Int) == 1)=false:=beq_eq_false_iff_ne.2 (by omega)
   have h2:2≤l.length:=by omega
   clear h0 h1
   have HK9:=Lib.hid (Range.setR_at (x:=(⟨k,noVer,none,0,none,0,L,n,e⟩:RV)) HR.out)
   have HB9:Hid (Below w.heap.size w (Range.setR W w.heap.size (⟨k,noVer,none,0,none,0,L,n,e⟩:RV))):=HB.out.trans ((Range.setR_below w.heap.size (Nat.le_refl _) (⟨k,noVer,none,0,none,0,L,n,e⟩:RV)).mono (Nat.le_refl _))
   have HS9:Hid (Range.Weak (Range.setR W w.heap.size (⟨k,noVer,none,0,none,0,L,n,e⟩:RV)) S (few k l) (⟨k,noVer,none,0,none,0,L,n,e⟩:RV)):=by rw [few_more k h2]; exact HM.out _ _ _ (Range.Weak.many k (HL.out.keep (keepR (fun g h=>h.2) HB.out (⟨k,noVer,none,0,none,0,L,n,e⟩:RV))))
   go_wp2
   change bodyPost _ _ _ _ _ (Range.setR W w.heap.size (⟨k,noVer,none,0,none,0,L,n,e⟩:RV))
   generalize Range.setR W w.heap.size (⟨k,noVer,none,0,none,0,L,n,e⟩:RV)=W9 at HK9 HB9 HS9 ⊢
   obtain ⟨_,_,z0,z1,z2,z3,z4,z5,z6⟩:=HK9.out
   exact bodyPost_ret (v:=.agg #[.int .i64 k,.int .u64 0,.int .u64 0,.int .u64 0,.slice none 0 0,.slice none 0 0,.slice L n e]) (by simp [results,Tryz.results36,go_sem,z0,z1,z2,z3,z4,z5,z6,noVer]) rfl ⟨(⟨k,noVer,none,0,none,0,L,n,e⟩:RV),rfl,HS9.out,HB9.out⟩
theorem refPoint_any (x y:RCut) (w:World) (hx:Span.Lies w x) (hy:Span.Lies w y) (h1:∀ s ∈ x.v.pre,s.length≤1000) (h2:∀ s ∈ y.v.pre,s.length≤1000) :
  Calls Tryz.prog 34 #[.agg #[x.kind,x.v.a,x.v.b,x.v.c,.slice x.A x.v.pre.length x.c,.slice x.B x.v.build.length x.d],.agg #[y.kind,y.v.a,y.v.b,y.v.c,.slice y.A y.v.pre.length y.c,.slice y.B y.v.build.length y.d]] w fun e w'=>e=.returned (.bool (isPoint x.cut y.cut))∧Below w.heap.size w w':=by
 obtain ⟨W,hW,HB0,HS0,X1,Y1⟩:=cc_start w x y hx hy
 clear hx hy
 go_enter Tryz.func34,Tryz.ntmps34
 go_upto_region 1 with (fail)
 rw [← hW]
 clear hW
 obtain ⟨a1,a2,x0,x1,x2,x3,x4,x5⟩:=X1.out
 obtain ⟨b1,b2,y0,y1,y2,y3,y4,y5⟩:=Y1.out
 cases hk:decide (x.kind=1∧y.kind=2) with
 | false =>
  have HF:Hid (isPoint x.cut y.cut=false):=by
   unfold Hid isPoint
   rw [decide_eq_false_iff_not] at hk ⊢
   exact fun h=>hk ⟨h.1,h.2.1⟩
  rw [decide_eq_false_iff_not] at hk
  by_cases h:x.kind=1
  ·have q1:(x.kind == 1)=true:=by simp [h]
   have q2:(y.kind == 2)=false:=beq_eq_false_iff_ne.2 fun e=>hk ⟨h,e⟩
   clear h hk
   go_wp2
   go_ret
   exact ⟨by rw [HF.out]; rfl,HB0.out⟩
  ·have q1:(x.kind == 1)=false:=beq_eq_false_iff_ne.2 h
   clear h hk
   go_wp2
   go_ret
   exact ⟨by rw [HF.out]; rfl,HB0.out⟩
 | true =>
  have hk:=of_decide_eq_true hk
  have HF:Hid (isPoint x.cut y.cut=(cmpV x.v y.v == 0)):=by
   unfold Hid
   rw [Bool.eq_iff_iff,isPoint_iff,beq_iff_eq]
   exact ⟨fun h=>h.2.2,fun h=>⟨hk.1,hk.2,h⟩⟩
  have q1:(x.kind == 1)=true:=by simp [hk.1]
  have q2:(y.kind == 2)=true:=by simp [hk.2]
  clear hk
  go_wp2_with fail
  refine (refCompare_any x.v y.v x.A x.B y.A y.B x.c x.d y.c y.d W HS0.out.lo.pre HS0.out.hi.pre HS0.out.lo.fpre.1 HS0.out.hi.fpre.1 h1 h2).mono ?_
  rintro e W2 ⟨rfl,hb⟩
  have HB2:=Lib.hid (HB0.out.trans (hb.mono HB0.out.size))
  clear hb a1 a2 x0 x1 x2 x3 x4 x5 b1 b2 y0 y1 y2 y3 y4 y5
  go_wp2
  go_ret
  exact ⟨by rw [HF.out]; rfl,HB2.out⟩
end Go.Proofs.YtgfbflnhjpbceaaGreatDoor.Nrm
namespace Go.Proofs.YtgfbflnhjpbceaaGreatDoor.Nrm
open Go.RowKit Num Ident Semver Prec Span
open Range (Rng noRng goodR goodL fits RV RAt RgRow LtB InS wt wtL wtL_len wt_mem KeepS zeroRV)
def verRV (k:Int) (r:RCut):RV:=⟨k,r.v,r.A,r.c,r.B,r.d,none,0,0⟩
def Strs (w:World) (B:Nat) (g:Nat):Prop:=B≤g∧(w.heap.size<g∨∃ c,w.heap[g]?=some (.cells c 9 (0,0)))
theorem strs_not (w:World) (B:Nat):¬ Strs w B w.heap.size:=by
 rintro ⟨_,h | ⟨c,h⟩⟩
 ·omega
 ·rw [Array.getElem?_eq_none (Nat.le_refl _)] at h; cases h
theorem lies_ver {w W:World} {B:Nat} {r:RCut} (h:OwnC w B r) (hb:Below w.heap.size w W) (hg:goodV r.v=true) (k:Int):Range.Lies W (Strs w B) (.mk k r.v []) (verRV k r):=by
 have hl:=h.lies.kept hb
 refine Range.Lies.version k r.v r.A r.c r.B r.d hl.pre hl.build (fun h0=>?_) (by rw [h.build]; exact InS.none_ _ _) h.cap (by rw [h.build]; exact Nat.zero_le _) (Range.fit_good hg)
 rcases h.own.2 with ⟨e1,_⟩ | ⟨g,cap,cur,e1,hg0,hgh,_⟩
 ·injection e1 with e1 e2 e3; omega
 ·injection e1 with e1 e2 e3
  exact ⟨g,0,e1,hg0,.inr ⟨cur,hgh⟩⟩
def rvs (qs:List (Int × RCut)):List RV:=qs.map fun q=>verRV q.1 q.2
def rgs (qs:List (Int × RCut)):List Rng:=qs.map fun q=>Rng.mk q.1 q.2.v []
def loQ (r:RCut):List (Int × RCut):=if r.kind=1 then [(1,r)] else if r.kind=2 then [(2,r)] else []
def hiQ (r:RCut):List (Int × RCut):=if r.kind=1 then [(4,r)] else if r.kind=2 then [(3,r)] else []
def neQ (l:List RSp):List (Int × RCut):=l.map fun s=>(6,s.hi)
theorem loQ_part (r:RCut):rgs (loQ r)=loPart r.cut:=by
 unfold loQ loPart
 by_cases h1:r.kind=1
 ·rw [if_pos h1,if_pos (show r.cut.kind=1 from h1)]; rfl
 ·by_cases h2:r.kind=2
  ·rw [if_neg h1,if_pos h2,if_neg (show ¬ r.cut.kind=1 from h1),if_pos (show r.cut.kind=2 from h2)]; rfl
  ·rw [if_neg h1,if_neg h2,if_neg (show ¬ r.cut.kind=1 from h1),if_neg (show ¬ r.cut.kind=2 from h2)]; rfl
theorem hiQ_part (r:RCut):rgs (hiQ r)=hiPart r.cut:=by
 unfold hiQ hiPart
 by_cases h1:r.kind=1
 ·rw [if_pos h1,if_pos (show r.cut.kind=1 from h1)]; rfl
 ·by_cases h2:r.kind=2
  ·rw [if_neg h1,if_pos h2,if_neg (show ¬ r.cut.kind=1 from h1),if_pos (show r.cut.kind=2 from h2)]; rfl
  ·rw [if_neg h1,if_neg h2,if_neg (show ¬ r.cut.kind=1 from h1),if_neg (show ¬ r.cut.kind=2 from h2)]; rfl
theorem neQ_part (l:List RSp):rgs (neQ l)=(l.map RSp.sp).map neOf:=by
 unfold rgs neQ
 rw [List.map_map,List.map_map]; rfl
def allQ (l:List RSp) (p:Nat):List (Int × RCut):=loQ (l.getD 0 default).lo ++ hiQ (l.getD p default).hi ++ neQ (l.take p)
theorem allQ_parts {l:List RSp} {p:Nat} (h:l.length=p+1):rgs (allQ l p)=parts (l.map RSp.sp):=by
 have e:rgs (allQ l p)=rgs (loQ (l.getD 0 default).lo) ++ rgs (hiQ (l.getD p default).hi) ++ rgs (neQ (l.take p)):=by
  unfold allQ rgs; rw [List.map_append,List.map_append]
 rw [e,loQ_part,hiQ_part,neQ_part]
 unfold parts lastOf
 rw [List.length_map,h,Nat.add_sub_cancel,sp_at,sp_at,List.map_take]; rfl
theorem loQ_mem {r:RCut} {q:Int × RCut} (h:q ∈ loQ r):q.2=r:=by
 unfold loQ at h
 split at h
 ·rw [List.mem_singleton] at h; subst h; rfl
 ·split at h
  ·rw [List.mem_singleton] at h; subst h; rfl
  ·cases h
theorem hiQ_mem {r:RCut} {q:Int × RCut} (h:q ∈ hiQ r):q.2=r:=by
 unfold hiQ at h
 split at h
 ·rw [List.mem_singleton] at h; subst h; rfl
 ·split at h
  ·rw [List.mem_singleton] at h; subst h; rfl
  ·cases h
theorem allQ_own {w:World} {B p:Nat} {l:List RSp} (h:l.length=p+1) (ho:∀ s ∈ l,OwnsS w B s):∀ q ∈ allQ l p,OwnC w B q.2:=by
 intro q hq
 unfold allQ at hq
 rcases List.mem_append.1 hq with hq | hq
 ·rcases List.mem_append.1 hq with hq | hq
  ·rw [loQ_mem hq]; exact (ho _ (getS_mem (by omega))).1
  ·rw [hiQ_mem hq]; exact (ho _ (getS_mem (by omega))).2
 ·unfold neQ at hq
  obtain ⟨s,hs,rfl⟩:=List.mem_map.1 hq
  exact (ho s (List.mem_of_mem_take hs)).2
theorem allQ_good {l:List RSp} {p:Nat} (h:l.length=p+1) (hN:Span.Norm (l.map RSp.sp)) (hc:Chain (l.map RSp.sp)):∀ q ∈ allQ l p,goodV q.2.v=true:=by
 intro q hq
 have hm:Rng.mk q.1 q.2.v [] ∈ parts (l.map RSp.sp):=by
  rw [← allQ_parts h]; exact List.mem_map_of_mem (f:=fun q:Int × RCut=>Rng.mk q.1 q.2.v []) hq
 obtain ⟨k,v,e,_,_,hv⟩:=parts_ver hN (by intro e; have:=congrArg List.length e; simp [h] at this) hc _ hm
 injection e with _ e2 _
 rw [e2]; exact hv
theorem At6B.grown {w w':World} {row:Option Nat} {b:Nat} {u0 u1 u2 u3 u4 u5:Value} (h:At6B w b u0 u1 u2 u3 u4 u5) (hg:w.grownBy w' row) (hne:some b≠row):At6B w' b u0 u1 u2 u3 u4 u5:=by
 obtain ⟨h1,h2,c0,c1,c2,c3,c4,c5⟩:=h
 have k:=hg.block b h1 hne
 have kc:∀ o,w'.cell? ⟨b,o,none⟩=w.cell? ⟨b,o,none⟩:=fun o=>World.cell?_of_block (w:=w) (a:=⟨b,o,none⟩) k
 exact ⟨Nat.lt_of_lt_of_le h1 hg.size,fun o=>(World.frozen?_of_block (w:=w) (a:=⟨b,o,none⟩) k).trans (h2 o),(kc 0).trans c0,(kc 1).trans c1,(kc 2).trans c2,(kc 3).trans c3,(kc 4).trans c4,(kc 5).trans c5⟩
def CutIn (W:World) (b:Nat) (r:RCut):Prop:=At6B W b r.kind r.v.a r.v.b r.v.c (.slice r.A r.v.pre.length r.c) (.slice r.B r.v.build.length r.d)
structure PcAt (w W:World) (p5 p6:Nat) (lo hi:RCut) (v:Value) (qs:List (Int × RCut)):Prop where
 own:W.ownsRow (w.heap.size+1) 28 7 v qs.length ((rvs qs).flatMap RV.vals)
 a5:CutIn W p5 lo
 a6:CutIn W p6 hi
 res:RAt W w.heap.size (zeroRV 0)
 bel:Below w.heap.size w W
 apart:∀ g,v.ownBlock=some g→g≠p5∧g≠p6
theorem PcAt.start {w W:World} {p5 p6:Nat} {lo hi:RCut} (a5:CutIn W p5 lo) (a6:CutIn W p6 hi) (res:RAt W w.heap.size (zeroRV 0)) (bel:Below w.heap.size w W):PcAt w W p5 p6 lo hi (.slice none 0 0) [] :=
 ⟨World.ownsRow_nil _ _ _ _,a5,a6,res,bel,fun g h=>by cases h⟩
theorem PcAt.kept {w W W':World} {p5 p6:Nat} {lo hi:RCut} {v:Value} {qs:List (Int × RCut)} (h:PcAt w W p5 p6 lo hi v qs) (hb:Below W.heap.size W W'):PcAt w W' p5 p6 lo hi v qs :=
 ⟨own_below h.own hb,Span.At6B.kept h.a5 hb h.a5.1,Span.At6B.kept h.a6 hb h.a6.1,h.res.kept hb h.res.1,h.bel.trans (hb.mono h.bel.size),h.apart⟩
theorem PcAt.more {w W W':World} {p5 p6:Nat} {lo hi:RCut} {v v':Value} {qs:List (Int × RCut)} (h:PcAt w W p5 p6 lo hi v qs) (k:Int) (r:RCut) (ho:W'.ownsRow (w.heap.size+1) 28 7 v' (qs.length+1) ((rvs qs ++ [verRV k r]).flatMap RV.vals)) (hg:W.grownBy W' v.ownBlock)
  (hat:v'.ownBlock=v.ownBlock∨v'.ownBlock=some W.heap.size):PcAt w W' p5 p6 lo hi v' (qs ++ [(k,r)]):=by
 have ne5:some p5≠v.ownBlock:=fun e=>(h.apart p5 e.symm).1 rfl
 have ne6:some p6≠v.ownBlock:=fun e=>(h.apart p6 e.symm).2 rfl
 have ner:some w.heap.size≠v.ownBlock:=fun e=>by have:=(h.own.lt _ e.symm).1; omega
 refine ⟨?_,At6B.grown h.a5 hg ne5,At6B.grown h.a6 hg ne6,h.res.grown hg ner,h.bel.trans ((Below.refl _ _).grown hg h.bel.size fun g e=>by have:=(h.own.lt _ e).1; omega),fun g e=>?_⟩
 ·rw [List.length_append]
  have e:rvs (qs ++ [(k,r)])=rvs qs ++ [verRV k r]:=by unfold rvs; rw [List.map_append]; rfl
  rw [e]; exact ho
 ·rcases hat with e2 | e2
  ·exact h.apart g (e2 ▸ e)
  ·rw [e2] at e
   injection e with e
   have h5:=h.a5.1
   have h6:=h.a6.1
   exact ⟨by omega,by omega⟩
theorem PcAt.row {w W:World} {p5 p6 B:Nat} {lo hi:RCut} {v:Value} {qs:List (Int × RCut)} (h:PcAt w W p5 p6 lo hi v qs) (hB:B≤w.heap.size) (ho:∀ q ∈ qs,OwnC w B q.2) (hg:∀ q ∈ qs,goodV q.2.v=true) :
  ∃ L e,v=.slice L qs.length e∧qs.length≤e∧(L=none→e=0)∧RgRow W (Strs w B) L qs.length (rgs qs):=by
 refine Range.RgRow.of_own h.own (fun g hg=>⟨by omega,.inl (by omega)⟩) (by unfold rvs; rw [List.length_map]) (by unfold rgs; rw [List.length_map]) fun j hj=>?_
 have hm:qs[j] ∈ qs:=List.getElem_mem hj
 have e1:(rgs qs).getD j noRng=.mk qs[j].1 qs[j].2.v []:=by
  unfold rgs; rw [List.getD_eq_getElem?_getD,List.getElem?_map,List.getElem?_eq_getElem hj]; rfl
 have e2:(rvs qs).getD j default=verRV qs[j].1 qs[j].2:=by
  unfold rvs; rw [List.getD_eq_getElem?_getD,List.getElem?_map,List.getElem?_eq_getElem hj]; rfl
 rw [e1,e2]
 exact lies_ver (ho _ hm) h.bel (hg _ hm) _
end Go.Proofs.YtgfbflnhjpbceaaGreatDoor.Nrm
