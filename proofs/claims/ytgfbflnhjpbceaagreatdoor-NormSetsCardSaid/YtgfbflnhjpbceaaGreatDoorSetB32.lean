/-
  What the theorem of the last text needs of these: NmSet. Conditions: as each theorem states.
-/
import Derived.Test.YtgfbflnhjpbceaaGreatDoorSetB1
import Derived.Test.YtgfbflnhjpbceaaGreatDoorSetB31
set_option maxRecDepth 100000
set_option maxHeartbeats 25600000
namespace Go.Proofs.YtgfbflnhjpbceaaGreatDoor.Nrm
open Go.RowKit Num Ident Semver Prec Span
open Range (Rng noRng goodR goodL fits RV RAt RgRow LtB wt wtL wtL_len wt_mem KeepS)
theorem others_of (r:Rng) (x:RV) (B:Nat) (w:World) (hx:Range.Lies w (LtB B) r x) (hB:B≤w.heap.size) (hw:wt r≤1500)
  (hset:∀ W,Range.Lies W (LtB B) r x→B≤W.heap.size→Calls Tryz.prog 28 #[x.agg] W (SetIn W (3 * wt r - 1) (SetOf r))) :
  Calls Tryz.prog 60 #[x.agg] w (SetIn w (3 * wt r) (RestOf r)):=by
 have hw0:1≤wt r:=by rw [Range.wt_eq]; omega
 have HB:Hid (Below w.heap.size w (w.alloc x)):=(Below.refl _ _).alloc (Nat.le_refl _) _
 have HR:Hid (RAt (w.alloc x) w.heap.size x):=RAt.new w _ x
 have HS:=Lib.hid (hset _ (hx.keep (KeepS.of_below (S:=LtB B) HB.out)) (Nat.le_trans hB HB.out.size))
 clear hx hset
 unfold RV.agg at HS ⊢
 go_enter Tryz.func60,Tryz.ntmps60
 go_upto_region 1 with (fail)
 generalize w.alloc x=W at HB HR HS ⊢
 obtain ⟨y1,y2,c0,c1,c2,c3,c4,c5,c6⟩:=HR.out
 go_wp2_with fail
 refine HS.out.mono ?_
 rintro e W2 ⟨A2,m2,cc2,o2,rfl,q1,q2,q3,q4,q5,q6,hb⟩
 have HB2:=Lib.hid (HB.out.trans (hb.mono HB.out.size))
 have H1:=Lib.hid q1
 have H3:=Lib.hid q3
 clear q1 q3 q4 q5 q6 hb c0 c1 c2 c3 c4 c5 c6 y1 y2 HS
 go_wp2_with fail
 refine (not_in A2 m2 cc2 o2 _ H1.out (by omega)).mono ?_
 intro e w4 h4
 have HS:Hid (SetIn w (3 * wt r) (RestOf r) e w4):=setIn_imp (h4.mono HB2.out) (fun o ho=>rest_of H3.out ho) (by omega)
 obtain ⟨A4,n4,cc4,out4,rfl,q1,q2,q3,q4,q5,q6,q7⟩:=HS.out
 clear h4
 go_wp2
 go_ret
 exact HS.out
theorem rng_eq {r:Rng} {x:RV} {w:World} {S:Nat→Prop} (hx:Range.Lies w S r x):r=.mk x.kind x.v r.subs:=by
 have hs:=hx.says
 obtain ⟨k,v,l⟩:=r
 have e1:k=x.kind:=hs.kind
 have e2:v=x.v:=hs.ver
 rw [e1,e2]; rfl
theorem set_any:∀ (m:Nat) (r:Rng) (x:RV) (B d:Nat) (w:World),wt r≤m→m≤1500→Range.Lies w (LtB B) r x→B≤w.heap.size→goodR r d=true →
  Calls Tryz.prog 28 #[x.agg] w (SetIn w (3 * wt r - 1) (SetOf r))
 | 0,r,x,B,d,w,hm,_,hx,hB,hg=>by rw [Range.wt_eq] at hm; omega
 | m+1,r,x,B,d,w,hm,hM,hx,hB,hg=>by
  have IH:=Lib.hid (fun r x d w=>set_any m r x B d w)
  have hs:=hx.says
  obtain ⟨hd,hgl,hln,hrk,hk⟩:=Range.right_at hx hg
  have HB:Hid (Below w.heap.size w (w.alloc x)):=(Below.refl _ _).alloc (Nat.le_refl _) _
  have HR:Hid (RAt (w.alloc x) w.heap.size x):=RAt.new w _ x
  have HL:=Lib.hid (hx.keep (KeepS.of_below (S:=LtB B) HB.out))
  have HG:=Lib.hid hgl
  have HRow:=Lib.hid (hs.pre.kept HB.out)
  have HF:Hid (Fit x.v.pre):=⟨hs.fit.pre,hs.fit.pres⟩
  have HE:=Lib.hid (rng_eq hx)
  have HW:=Lib.hid (Range.wt_eq r)
  have HLN:=Lib.hid hln
  have hB1:B≤(w.alloc x).heap.size:=Nat.le_trans hB HB.out.size
  have hwl:wtL r.subs≤m:=by rw [Range.wt_eq] at hm; omega
  have HO:Hid (∀ q,q ∈ r.subs→∀ (y:RV) (W:World),Range.Lies W (LtB B) q y→B≤W.heap.size→Calls Tryz.prog 28 #[y.agg] W (SetIn W (3 * wt q - 1) (SetOf q))):=fun q hq y W hy hBW=>by
   have h1:=wt_mem hq
   exact IH.out q y (d+Range.opens r.kind q.kind) W (by omega) (by omega) hy hBW (Range.goodL_mem HG.out hq)
  clear hs hx hg hgl IH
  unfold RV.agg
  go_enter Tryz.func28,Tryz.ntmps28
  go_upto_region 1 with (fail)
  generalize w.alloc x=W at HB HR HL HRow hB1 ⊢
  obtain ⟨y1,y2,c0,c1,c2,c3,c4,c5,c6⟩:=HR.out
  have hcase:((x.kind=0∨(1≤x.kind∧x.kind≤8∧goodV x.v=true))∧x.n=0)∨(x.kind=9)∨(x.kind=10)∨(x.kind=11∧x.n=1):=by
   rcases hk with ⟨h1,h2,h3,h4⟩ | ⟨_,⟨h1,h2⟩ | ⟨h1 | h1,h2⟩ | ⟨h1,h2⟩⟩
   ·exact .inl ⟨.inr ⟨h1,h2,h3⟩,h4⟩
   ·exact .inl ⟨.inl h1,h2⟩
   ·exact .inr (.inl h1)
   ·exact .inr (.inr (.inl h1))
   ·exact .inr (.inr (.inr ⟨h1,h2⟩))
  clear hk
  rcases hcase with ⟨hk,hn⟩ | hk | hk | ⟨hk,hn⟩
  ·have hs0:r.subs=[]:=List.eq_nil_of_length_eq_zero (HLN.out.trans hn)
   have HE2:Hid (r=.mk x.kind x.v []):=by have:=HE.out; rw [hs0] at this; exact this
   have hw1:wt r=1:=by rw [HW.out,hs0]; rfl
   have HV:=Lib.hid (byVer_any x W HRow.out HF.out hk)
   have q9:(x.kind == 9)=false:=by simp; omega
   have q10:(x.kind == 10)=false:=by simp; omega
   have q11:(x.kind == 11)=false:=by simp; omega
   clear hk hn hs0
   go_wp2_with fail
   refine HV.out.mono ?_
   intro e w4 h4
   have HS:Hid (SetIn w (3 * wt r - 1) (SetOf r) e w4):=setIn_imp (h4.mono HB.out) (fun o ho=>by rw [HE2.out]; exact ho) (by omega)
   obtain ⟨A4,n4,cc4,out4,rfl,q1,q2,q3,q4,q5,q6,q7⟩:=HS.out
   clear h4
   go_wp2
   go_ret
   exact HS.out
  ·have hks:x.kind=9:=hk
   have HE2:Hid (r=.mk 9 x.v r.subs):=by have:=HE.out; rw [hks] at this; exact this
   rw [hks] at c0
   have HGa:=Lib.hid (gatheredO x.L x.n x.e B r.subs W HL.out.says.subs hB1 (by omega) (fun q hq y W' hy hBW=>others_of q y B W' hy hBW (by have:=wt_mem hq; omega) (fun W'' h1 h2=>HO.out q hq y W'' h1 h2)))
   clear hk hks
   go_wp2_with fail
   refine HGa.out.mono ?_
   rintro e W2 ⟨A2,m2,cc2,o2,rfl,q1,q2,q3,hb⟩
   have HB2:=Lib.hid (HB.out.trans (hb.mono HB.out.size))
   have H1:=Lib.hid q1
   have H3:=Lib.hid q3
   clear q1 q3 hb c0 c1 c2 c3 c4 c5 c6 y1 y2 HGa
   go_wp2_with fail
   refine (not_in A2 m2 cc2 o2 _ H1.out (by omega)).mono ?_
   intro e w4 h4
   have HS:Hid (SetIn w (3 * wt r - 1) (SetOf r) e w4):=setIn_imp (h4.mono HB2.out) (fun o ho=>by rw [HE2.out]; exact set_and H3.out ho) (by rw [HW.out]; omega)
   obtain ⟨A4,n4,cc4,out4,rfl,q1,q2,q3,q4,q5,q6,q7⟩:=HS.out
   clear h4
   go_wp2
   go_ret
   exact HS.out
  ·have hks:x.kind=10:=hk
   have HE2:Hid (r=.mk 10 x.v r.subs):=by have:=HE.out; rw [hks] at this; exact this
   rw [hks] at c0
   have HGa:=Lib.hid (gatheredS x.L x.n x.e B r.subs W HL.out.says.subs hB1 (by omega) (fun q hq y W' hy hBW=>(HO.out q hq y W' hy hBW).mono fun _ _ h=>setIn_imp h (fun _ h=>h) (by omega)))
   clear hk hks
   go_wp2_with fail
   refine HGa.out.mono ?_
   rintro e W2 ⟨A2,m2,cc2,o2,rfl,q1,q2,q3,hb⟩
   have HB2:=Lib.hid (HB.out.trans (hb.mono HB.out.size))
   have H1:=Lib.hid q1
   have H3:=Lib.hid q3
   clear q1 q3 hb c0 c1 c2 c3 c4 c5 c6 y1 y2 HGa
   go_wp2_with fail
   refine (normal_in A2 m2 cc2 o2 _ H1.out (by omega)).mono ?_
   intro e w4 h4
   have HS:Hid (SetIn w (3 * wt r - 1) (SetOf r) e w4):=setIn_imp (h4.mono HB2.out) (fun o ho=>by rw [HE2.out]; exact set_or H3.out ho) (by rw [HW.out]; omega)
   obtain ⟨A4,n4,cc4,out4,rfl,q1,q2,q3,q4,q5,q6,q7⟩:=HS.out
   clear h4
   go_wp2
   go_ret
   exact HS.out
  ·have hks:x.kind=11:=hk
   obtain ⟨q,hq⟩:=List.length_eq_one_iff.1 (HLN.out.trans hn)
   have HE2:Hid (r=.mk 11 x.v [q]):=by have:=HE.out; rw [hks,hq] at this; exact this
   rw [hks] at c0
   obtain ⟨b,o,y,hLe,hSb,hcl,hy⟩:=HL.out.says.subs.one (show 0<x.n by omega)
   rw [hq] at hy
   have hmem:q ∈ r.subs:=by rw [hq]; exact List.mem_singleton.2 rfl
   have hwq:wt q≤1500:=by have:=wt_mem hmem; omega
   have hwr:wt r=1+wt q:=by rw [HW.out,hq]; show 1+(wt q+0)=_; omega
   have HOt:=Lib.hid (others_of q y B W hy hB1 hwq (fun W'' h1 h2=>HO.out q hmem y W'' h1 h2))
   have hcl':=hcl
   simp only [Nat.zero_mul,Nat.add_zero] at hcl'
   obtain ⟨e0,e1,e2,e3,e4,e5,e6⟩:=hcl'.cells
   rw [hLe,hn] at c6
   clear hk hks hy hcl hcl' hmem
   go_wp2_with fail
   refine HOt.out.mono ?_
   intro e w4 h4
   have HS:Hid (SetIn w (3 * wt r - 1) (SetOf r) e w4):=setIn_imp (h4.mono HB.out) (fun o ho=>by rw [HE2.out]; exact set_not ho) (by omega)
   obtain ⟨A4,n4,cc4,out4,rfl,q1,q2,q3,q4,q5,q6,q7⟩:=HS.out
   clear h4
   go_wp2
   go_ret
   exact HS.out
def OfPost (w:World) (r:Rng) (e:Ending) (w':World):Prop:=SetIn w (3 * wt r - 1) (fun o=>if goodR r 0=true then SetOf r o else o=[]) e w'
theorem of_any (r:Rng) (x:RV) (B:Nat) (w:World) (hx:Range.Lies w (LtB B) r x) (hB:B≤w.heap.size) (hlo:Range.LenOk r) (hw:goodR r 0=true→wt r≤1500) :
  Calls Tryz.prog 10 #[x.agg] w (OfPost w r):=by
 have HB:Hid (Below w.heap.size w (w.alloc x)):=(Below.refl _ _).alloc (Nat.le_refl _) _
 have HR:Hid (RAt (w.alloc x) w.heap.size x):=RAt.new w _ x
 have HL:=Lib.hid (hx.keep (KeepS.of_below (S:=LtB B) HB.out))
 have hB1:B≤(w.alloc x).heap.size:=Nat.le_trans hB HB.out.size
 clear hx
 unfold RV.agg
 go_enter Tryz.func10,Tryz.ntmps10
 go_upto_region 1 with (fail)
 generalize w.alloc x=W at HB HR HL hB1 ⊢
 obtain ⟨y1,y2,c0,c1,c2,c3,c4,c5,c6⟩:=HR.out
 go_wp2_with fail
 refine (Range.goodIs_any r x B W hlo HL.out hB1).mono ?_
 rintro e W2 ⟨rfl,hb⟩
 have HB2:=Lib.hid (HB.out.trans (hb.mono HB.out.size))
 have HR2:=Lib.hid (HR.out.kept hb HR.out.1)
 have HL2:=Lib.hid (HL.out.keep (KeepS.of_below (S:=LtB B) hb))
 have hB2:B≤W2.heap.size:=Nat.le_trans hB1 hb.size
 clear hb y1 y2 c0 c1 c2 c3 c4 c5 c6 HB HR HL
 obtain ⟨y1,y2,c0,c1,c2,c3,c4,c5,c6⟩:=HR2.out
 cases hg:goodR r 0 with
 | true =>
  have HG:=Lib.hid hg
  clear hg
  go_wp2_with fail
  refine (set_any 1500 r x B 0 W2 (hw HG.out) (Nat.le_refl _) HL2.out hB2 HG.out).mono ?_
  intro e w4 h4
  have HS:Hid (OfPost w r e w4):=by
   unfold Hid OfPost
   refine setIn_imp (h4.mono HB2.out) (fun o ho=>?_) (Nat.le_refl _)
   rw [if_pos HG.out]; exact ho
  obtain ⟨A4,n4,cc4,out4,rfl,q1,q2,q3,q4,q5,q6,q7⟩:=HS.out
  clear h4
  go_wp2
  go_ret
  exact HS.out
 | false =>
  have HG:=Lib.hid hg
  clear hg
  go_wp2
  go_ret
  exact ⟨none,0,0,[],rfl,SpRow.none_ _ _,Nat.zero_le _,by
   show if goodR r 0=true then SetOf r [] else ([]:List Sp)=[]
   rw [HG.out]; rfl,(fun s hs=>by cases hs),Nat.le_refl _,fun _=>rfl,HB2.out⟩
end Go.Proofs.YtgfbflnhjpbceaaGreatDoor.Nrm
