/-
  What the theorem of the last text needs of these: SpSets, NmGreat. Conditions: as each theorem states.
-/
import Derived.Test.YtgakcdcfblgagaaGreatDoorRoA1
import Derived.Test.YtgakcdcfblgagaaGreatDoorRoA7
import Derived.Test.YtgakcdcfblgagaaGreatDoorRoA13
import Derived.Test.YtgakcdcfblgagaaGreatDoorRoA15
import Derived.Test.YtgakcdcfblgagaaGreatDoorRoA16
set_option maxRecDepth 100000
set_option maxHeartbeats 25600000
namespace Go.Proofs.YtgakcdcfblgagaaGreatDoor.Span
open Go.RowKit Num Ident Semver Prec

theorem right_of {l:List RSp} {step:Int} {re:List REdge} (h:re.map REdge.edge=edgesOf (l.map RSp.sp) step):∀ e ∈ re,right e.cut.cut=true:=fun e he =>
 edgesOf_right (l.map RSp.sp) step e.edge (by rw [← h]; exact List.mem_map_of_mem he)
theorem step_of {l:List RSp} {step:Int} {re:List REdge} (h:re.map REdge.edge=edgesOf (l.map RSp.sp) step) (h1:-10≤step) (h2:step≤10):∀ e ∈ re,-10≤e.step∧e.step≤10:=fun e he=>by
 have hm:e.edge ∈ edgesOf (l.map RSp.sp) step:=by rw [← h]; exact List.mem_map_of_mem he
 have:=edgesOf_step _ _ _ hm
 show -10≤e.edge.step∧e.edge.step≤10
 rcases this with h | h <;> rw [h] <;> omega
theorem go_half (n:Int):∀ (l:List Edge) (cut:Cut) (was:Bool) (t:Int) (lo:Cut),2 * (go n cut was t lo l).length≤l.length+(if was=true then 1 else 0)
 | [],_,_,_,_=>by rw [go]; simp
 | [e],cut,was,t,lo=>by
  rw [go]
  by_cases h:was=true∧¬ n≤t+e.step
  ·rw [if_pos h,if_pos h.1]; simp
  ·rw [if_neg h]; simp
 | e :: f :: r,cut,was,t,lo=>by
  rw [go]
  by_cases h1:stand cut f.cut=0
  ·rw [if_pos h1]
   have:=go_half n (f :: r) cut was (t+e.step) lo
   rw [List.length_cons]; omega
  ·rw [if_neg h1]
   by_cases h2:n≤t+e.step∧was=false
   ·rw [if_pos h2]
    have:=go_half n (f :: r) f.cut true (t+e.step) cut
    rw [if_pos rfl] at this
    rw [h2.2,if_neg (by simp),List.length_cons]; omega
   ·rw [if_neg h2]
    by_cases h3:was=true∧¬ n≤t+e.step
    ·rw [if_pos h3,if_pos h3.1]
     have:=go_half n (f :: r) f.cut false (t+e.step) lo
     rw [if_neg (by simp)] at this
     rw [List.length_cons,List.length_cons]; omega
    ·rw [if_neg h3]
     have:=go_half n (f :: r) f.cut was (t+e.step) lo
     rw [List.length_cons]; omega
theorem sweep_half {n:Int} (hn:0<n) (l:List Edge):2 * (sweepL n l).length≤l.length:=by
 cases l with
 | nil=>simp [sweepL]
 | cons e r =>
  unfold sweepL
  have:=go_half n (e :: r) e.cut (decide (n≤0)) 0 low
  rw [if_neg (by simp; omega)] at this
  exact this
def OwnsS (w:World) (B:Nat) (s:RSp):Prop:=OwnC w B s.lo∧OwnC w B s.hi
theorem OwnsS.kept {w w':World} {B:Nat} {s:RSp} (h:OwnsS w B s) (hb:Below w.heap.size w w'):OwnsS w' B s:=⟨h.1.kept hb,h.2.kept hb⟩
theorem OwnsS.mono {w:World} {B B':Nat} {s:RSp} (h:OwnsS w B s) (hB:B'≤B):OwnsS w B' s:=⟨h.1.mono hB,h.2.mono hB⟩
theorem OwnsS.lies {w:World} {B:Nat} {s:RSp} (h:OwnsS w B s):LiesS w s:=⟨h.1.lies,h.2.lies⟩
theorem OwnsS.grown {w w':World} {B B2:Nat} {s:RSp} {set:Value} {n:Nat} {xs:List Value} (h:OwnsS w B s) (hs:w.ownsRow B2 196 12 set n xs) (hg:w.grownBy w' set.ownBlock):OwnsS w' B s:=⟨h.1.grown hs hg,h.2.grown hs hg⟩
def SetIn (w:World) (k:Nat) (P:List Sp→Prop) (e:Ending) (w':World):Prop :=
 ∃ (A:Option Addr) (n c:Nat) (out:List RSp),e=.returned (.slice A n c)∧SpRow w' A n out∧n≤k∧P (out.map RSp.sp)∧(∀ s ∈ out,OwnsS w' w.heap.size s)∧n≤c∧(A=none→c=0)∧Below w.heap.size w w'
theorem setIn_of {w1:World} {m:Int} {re0:List REdge} {k:Nat} {P:List Sp→Prop} {e:Ending} {w':World} (hm:0<m) (h:SweepPost w1 m re0 e w') (hn:re0.length≤2 * k)
  (hP:∀ l:List Edge,l.Perm (re0.map REdge.edge)→(l.Pairwise fun x y=>stand x.cut y.cut≤0)→P (sweepL m l)):SetIn w1 k P e w':=by
 obtain ⟨B,set,out,re,rfl,hp,hs,hq,hB,ho,hc,hl,hb⟩:=h
 obtain ⟨A,c,rfl,hcap,hnil,hcell⟩:=own_cells svals_len ho rfl
 refine ⟨A,out.length,c,out,rfl,⟨rfl,fun s hs=>⟨(hc s hs).1.lies,(hc s hs).2.lies⟩,fun h0=>?_⟩,?_,?_,fun s hs=>⟨(hc s hs).1.mono hB,(hc s hs).2.mono hB⟩,hcap,hnil,hb⟩
 ·obtain ⟨g,h1,_,h2,_,h3⟩:=hcell h0
  exact ⟨g,0,h1,h2,h3⟩
 ·have h1:=sweep_half hm (re.map REdge.edge)
  rw [← hq,List.length_map,List.length_map,hp.length_eq] at h1
  omega
 ·rw [hq]; exact hP _ (hp.map _) (List.pairwise_map.2 hs)
theorem SetIn.mono {w w1:World} {k:Nat} {P:List Sp→Prop} {e:Ending} {w':World} (h:SetIn w1 k P e w') (hb:Below w.heap.size w w1):SetIn w k P e w':=by
 obtain ⟨A,n,c,out,h1,h2,h3,h4,h5,h6,h7,h8⟩:=h
 exact ⟨A,n,c,out,h1,h2,h3,h4,fun s hs=>(h5 s hs).mono hb.size,h6,h7,hb.trans (h8.mono hb.size)⟩
theorem edges_out {w:World} {l:List RSp} {step:Int} {e:Ending} {w':World} (h:EdgesPost w l step e w'):∃ (A:Option Addr) (c:Nat) (re:List REdge),e=.returned (.slice A re.length c)∧w'.ownsRow w.heap.size 281 7 (.slice A re.length c) re.length (re.flatMap REdge.vals)∧re.map REdge.edge=edgesOf (l.map RSp.sp) step∧(∀ e ∈ re,Lies w e.cut)∧re.length≤2 * l.length∧Below w.heap.size w w':=by
 obtain ⟨v,re,rfl,h1,h2,h3,h4,h5⟩:=h
 obtain ⟨A,c,rfl,_⟩:=own_cells evals_len h1 rfl
 exact ⟨A,c,re,rfl,h1,h2,h3,h4,h5⟩
def NormalOf (l:List Sp) (o:List Sp):Prop:=Norm o∧∀ c,inS o c↔inR l c

theorem normal_in (A:Option Addr) (n c:Nat) (l:List RSp) (w:World) (hr:SpRow w A n l) (hn:n≤5000) :
  Calls Tryz.prog 177 #[.slice A n c] w (SetIn w n (NormalOf (l.map RSp.sp))):=by
 have HR:=Lib.hid hr
 have HL:=Lib.hid hr.1
 clear hr
 go_enter Tryz.func177,Tryz.ntmps177
 go_wp2_with fail
 refine (edges_any A n c l 1 _ HR.out (by omega) (by omega) (by omega)).mono ?_
 intro e w1 h1
 obtain ⟨A1,c1,re,rfl,ho,hm,hl,hk,hb⟩:=edges_out h1
 have HO:=Lib.hid ho
 have HM:=Lib.hid hm
 have HI:=Lib.hid hl
 have HB:=Lib.hid hb
 have hk2:re.length≤2 * n:=by rw [HL.out] at hk; omega
 clear ho hm hl hb h1 hk
 go_wp2_with fail
 refine (atLeast_any 1 _).mono ?_
 rintro e w2 ⟨rfl,rfl⟩
 go_wp2_with fail
 refine (sweep_any w _ w.heap.size _ re w1.heap.size 1 (HO.out.alloc _) HI.out (HB.out.alloc HB.out.size _) (Nat.le_refl _) (by simp) (by simp [go_sem]) (fun h=>by have:=(HO.out.lt _ h).2; omega) (right_of HM.out) (step_of HM.out (by omega) (by omega)) (by omega)).mono ?_
 intro e w3 h3
 have HS:=Lib.hid (setIn_of (P:=NormalOf (l.map RSp.sp)) (by omega) h3 hk2 (fun E hp hs=>by
  rw [HM.out] at hp
  have hr:∀ e ∈ E,right e.cut=true:=fun e he=>edgesOf_right _ _ e (hp.mem_iff.1 he)
  obtain ⟨k1,k2⟩:=sweep_norm (n:=1) (by omega) hs hr (by rw [total_perm hp,edgesOf_total]; omega)
  refine ⟨k1,fun c=>(k2 c).trans ?_⟩
  rw [cov_perm hp,edgesOf_cov,← times_pos]; omega))
 obtain ⟨A3,n3,c3,out,rfl,q1,q2,q3,q4,q5,q6,q7⟩:=HS.out
 clear h3
 go_wp2
 go_ret
 exact HS.out

theorem two_sets {m s1 s2:Int} (hm:0<m) {l1 l2:List Sp} {E:List Edge} (hp:E.Perm (edgesOf l1 s1 ++ edgesOf l2 s2)) (hs:E.Pairwise fun x y=>stand x.cut y.cut≤0) :
  Norm (sweepL m E)∧∀ c,inS (sweepL m E) c↔m≤s1 * (times l1 c:Int)+s2 * (times l2 c:Int):=by
 have hr:∀ e ∈ E,right e.cut=true:=fun e he=>by
  rcases List.mem_append.1 (hp.mem_iff.1 he) with h | h
  ·exact edgesOf_right _ _ e h
  ·exact edgesOf_right _ _ e h
 obtain ⟨k1,k2⟩:=sweep_norm hm hs hr (by rw [total_perm hp,total_append,edgesOf_total,edgesOf_total]; omega)
 refine ⟨k1,fun c=>(k2 c).trans ?_⟩
 rw [cov_perm hp,cov_append,edgesOf_cov,edgesOf_cov]
def UnionOf (a b:List Sp) (o:List Sp):Prop:=Norm o∧∀ c,inS o c↔inR a c∨inR b c
def NotOf (l:List Sp) (o:List Sp):Prop:=Norm o∧∀ c,inS o c↔inOne ⟨low,high⟩ c∧¬ inR l c
theorem union_of {a b:List Sp} {E:List Edge} (hp:E.Perm (edgesOf a 1 ++ edgesOf b 1)) (hs:E.Pairwise fun x y=>stand x.cut y.cut≤0):UnionOf a b (sweepL 1 E):=by
 obtain ⟨h1,h2⟩:=two_sets (m:=1) (by omega) hp hs
 refine ⟨h1,fun c=>(h2 c).trans ?_⟩
 rw [← times_pos,← times_pos]; omega
theorem all_norm:Norm [⟨low,high⟩]:=⟨fun s hs=>by rw [List.mem_singleton] at hs; subst hs; exact (cnt_iff _).2 ⟨low_right,high_right,low_high⟩,List.pairwise_singleton _ _⟩
theorem not_of {l:List Sp} {E:List Edge} (hp:E.Perm (edgesOf [⟨low,high⟩] 1 ++ edgesOf l (-1))) (hs:E.Pairwise fun x y=>stand x.cut y.cut≤0):NotOf l (sweepL 1 E):=by
 obtain ⟨h1,h2⟩:=two_sets (m:=1) (by omega) hp hs
 refine ⟨h1,fun c=>(h2 c).trans ?_⟩
 have e:inOne ⟨low,high⟩ c↔1≤times [⟨low,high⟩] c:=by
  rw [times_pos,all_norm.inR]
  exact ⟨fun h=>⟨_,List.mem_singleton.2 rfl,h⟩,fun ⟨s,hs,h⟩=>by rw [List.mem_singleton] at hs; subst hs; exact h⟩
 rw [e,← times_pos]
 have:=all_norm.once c
 omega

theorem SpRow.one (w:World) (s:RSp) (h:LiesS w s):SpRow (w.alloc (.cells s.vals.toArray 196)) (some ⟨w.heap.size,0,none⟩) 1 [s]:=by
 refine ⟨rfl,fun x hx=>?_,fun _=>⟨w.heap.size,0,rfl,by simp,fun j hj i v hv=>?_⟩⟩
 ·rw [List.mem_singleton] at hx; subst hx; exact h.kept ((Below.refl _ _).alloc (Nat.le_refl _) _)
 ·obtain rfl:j=0:=by omega
  have:=news_new w s.vals 196 i v hv
  rw [add_none] at this
  simpa using this

theorem not_in (A:Option Addr) (n c:Nat) (l:List RSp) (w:World) (hr:SpRow w A n l) (hn:n≤5000) :
  Calls Tryz.prog 174 #[.slice A n c] w (SetIn w (1+n) (NotOf (l.map RSp.sp))):=by
 have HB0:Hid (Below w.heap.size w (w.alloc (.cells #[.int .i64 0,.int .u64 0,.int .u64 0,.int .u64 0,.slice none 0 0,.slice none 0 0,.int .i64 3,.int .u64 0,.int .u64 0,.int .u64 0,.slice none 0 0,.slice none 0 0] 196))):=(Below.refl _ _).alloc (Nat.le_refl _) _
 have HR0:Hid (SpRow (w.alloc (.cells #[.int .i64 0,.int .u64 0,.int .u64 0,.int .u64 0,.slice none 0 0,.slice none 0 0,.int .i64 3,.int .u64 0,.int .u64 0,.int .u64 0,.slice none 0 0,.slice none 0 0] 196)) (some ⟨w.heap.size,0,none⟩) 1 [⟨rlow,rhigh⟩]):=SpRow.one w ⟨rlow,rhigh⟩ ⟨Lies.low _,Lies.high _⟩
 have HR:=Lib.hid (hr.kept HB0.out)
 have HL:=Lib.hid hr.1
 clear hr
 go_enter Tryz.func174,Tryz.ntmps174
 go_upto_region 2 with (fail)
 generalize w.alloc (.cells #[.int .i64 0,.int .u64 0,.int .u64 0,.int .u64 0,.slice none 0 0,.slice none 0 0,.int .i64 3,.int .u64 0,.int .u64 0,.int .u64 0,.slice none 0 0,.slice none 0 0] 196)=w0 at HB0 HR0 HR ⊢
 go_wp2_with fail
 refine (edges_any _ 1 _ [⟨rlow,rhigh⟩] 1 _ HR0.out (by omega) (by omega) (by omega)).mono ?_
 intro e w1 h1
 obtain ⟨A1,c1,re1,rfl,ho,hm,hl,hk1,hb⟩:=edges_out h1
 have HO1:=Lib.hid ho
 have HM1:=Lib.hid hm
 have HI1:=Lib.hid hl
 have HB1:=Lib.hid (HB0.out.trans (hb.mono HB0.out.size))
 have HC1:=Lib.hid hb
 clear ho hm hl hb h1
 go_wp2_with fail
 refine (edges_any _ n _ l (-1) _ (HR.out.kept HC1.out) (by omega) (by omega) (by omega)).mono ?_
 intro e w2 h2
 obtain ⟨A2,c2,re2,rfl,ho,hm,hl,hk2,hb⟩:=edges_out h2
 have HO2:=Lib.hid ho
 have HM2:=Lib.hid hm
 have HI2:=Lib.hid hl
 have HB2:=Lib.hid (HB1.out.trans (hb.mono HB1.out.size))
 have HC2:=Lib.hid hb
 clear ho hm hl hb h2
 have hka:re1.length≤2:=by simpa using hk1
 have hkb:re2.length≤2 * n:=by rw [HL.out] at hk2; omega
 have hkk:(re1 ++ re2).length≤2+2 * n:=by rw [List.length_append]; omega
 have AQ:=Lib.hid ((Below.refl w2.heap.size w2).alloc (Nat.le_refl _) (.cells #[.slice A1 re1.length c1,.slice A2 re2.length c2] 278))
 have X1:=Lib.hid (own_below HO1.out HC2.out)
 have S1:=Lib.hid ((EdSrc.of_own X1.out).kept AQ.out)
 have S2:=Lib.hid ((EdSrc.of_own HO2.out).kept AQ.out)
 have BQ:=Lib.hid (HB2.out.trans (AQ.out.mono HB2.out.size))
 have IQ:Hid (∀ e ∈ re1 ++ re2,Lies (w2.alloc (.cells #[.slice A1 re1.length c1,.slice A2 re2.length c2] 278)) e.cut):=fun e he=>by
  rcases List.mem_append.1 he with he | he
  ·exact (((HI1.out e he).kept HC1.out).kept HC2.out).kept AQ.out
  ·exact ((HI2.out e he).kept HC2.out).kept AQ.out
 have HMM:=Lib.hid ((List.map_append (f:=REdge.edge) (l₁:=re1) (l₂:=re2)).trans (congr (congrArg _ HM1.out) HM2.out))
 have HRR:Hid (∀ e ∈ re1 ++ re2,right e.cut.cut=true):=fun e he=>(List.mem_append.1 he).elim (right_of HM1.out e) (right_of HM2.out e)
 have HST:Hid (∀ e ∈ re1 ++ re2,-10≤e.step∧e.step≤10):=fun e he=>(List.mem_append.1 he).elim (step_of HM1.out (by omega) (by omega) e) (step_of HM2.out (by omega) (by omega) e)
 go_wp2_with fail
 refine (concat_any w2.heap.size _ _ re1 re2 _ (by simp) (by simp [go_sem]) (by simp [go_sem]) S1.out S2.out (by omega) (by omega)).mono ?_
 rintro e w8 ⟨v8,rfl,ho8,hb8⟩
 generalize re1 ++ re2=rr at ho8 hkk IQ HMM HRR HST
 obtain ⟨A8,c8,rfl,_⟩:=own_cells evals_len ho8 rfl
 have O8:=Lib.hid ho8
 have B8:=Lib.hid hb8
 clear ho8 hb8
 generalize (w2.alloc (.cells #[.slice A1 re1.length c1,.slice A2 re2.length c2] 278))=WQ at BQ IQ O8 B8
 go_wp2_with fail
 refine (atLeast_any 1 _).mono ?_
 rintro e w9 ⟨rfl,rfl⟩
 go_wp2_with fail
 refine (sweep_any WQ _ WQ.heap.size _ rr w8.heap.size 1 (O8.out.alloc _) IQ.out (B8.out.alloc B8.out.size _) (Nat.le_refl _) (by simp) (by simp [go_sem]) (fun h=>by have:=(O8.out.lt _ h).2; omega) HRR.out HST.out (by omega)).mono ?_
 intro e wz hz
 have HS:=Lib.hid ((setIn_of (P:=NotOf (l.map RSp.sp)) (k:=1+n) (by omega) hz (by omega) (fun E hp hs=>by
  rw [HMM.out] at hp
  exact not_of hp hs)).mono BQ.out)
 obtain ⟨A3,n3,c3,out,rfl,q1,q2,q3,q4,q5,q6,q7⟩:=HS.out
 clear hz
 go_wp2
 go_ret
 exact HS.out
end Go.Proofs.YtgakcdcfblgagaaGreatDoor.Span
namespace Go.Proofs.YtgakcdcfblgagaaGreatDoor.Nrm
open Go.RowKit Num Ident Semver
open Range (Rng noRng goodR goodL fits wt wtL RV RAt Keep KeepS LtB LenOk)
mutual
def tot:Rng→Nat
 | .mk _ v l=>1+v.pre.length+v.build.length+totL l
def totL:List Rng→Nat
 | []=>0
 | r :: rs=>tot r+totL rs
end
theorem tot_eq (r:Rng):tot r=1+r.ver.pre.length+r.ver.build.length+totL r.subs:=by obtain ⟨k,v,l⟩:=r; rfl
theorem totL_take:∀ (l:List Rng) (k:Nat),k<l.length→totL (l.take (k+1))=totL (l.take k)+tot (l.getD k noRng)
 | [],k,h=>absurd h (Nat.not_lt_zero _)
 | r :: rs,0,_=>by show tot r+totL (rs.take 0)=0+tot r; rw [List.take_zero]; show tot r+0=_; omega
 | r :: rs,k+1,h=>by
  show tot r+totL (rs.take (k+1))=tot r+totL (rs.take k)+tot (rs.getD k noRng)
  rw [totL_take rs k (by simpa using h)]; omega
theorem good_modest {r:Rng} {d:Nat} (h:goodR r d=true):r.ver.pre.length≤16∧r.ver.build.length≤16:=by
 obtain ⟨k,v,l⟩:=r
 rw [Range.goodR_eq,Bool.and_eq_true,Bool.and_eq_true] at h
 have h2:=h.1.2
 show v.pre.length≤16∧v.build.length≤16
 cases ho:Range.ofVersion k with
 | true =>
  rw [Range.fits_ver ho,Bool.and_eq_true] at h2
  have h3:=h2.1
  unfold goodV at h3
  rw [Bool.and_eq_true,Bool.and_eq_true] at h3
  have a:=Span.good_len true v.pre 0 (by omega) h3.2.1
  have b:=Span.good_len false v.build 0 (by omega) h3.2.2
  omega
 | false =>
  cases hs:sameV v noVer with
  | false=>rw [Range.fits_un ho hs] at h2; cases h2
  | true=>rw [Span.sameV_none hs]; exact ⟨by decide,by decide⟩
theorem good_sub {r:Rng} {d j:Nat} (h:goodR r d=true) (hj:j<r.subs.length):∃ d',goodR (r.subs.getD j noRng) d'=true:=by
 obtain ⟨k,v,l⟩:=r
 rw [Range.goodR_eq,Bool.and_eq_true] at h
 exact ⟨_,Range.goodL_at.1 h.2 j hj⟩
inductive Slim:Rng→Prop
 | mk (k:Int) (v:Ver) (l:List Rng) (hp:v.pre.length≤8796093022208) (hb:v.build.length≤8796093022208) (hl:∀ y ∈ l,Slim y):Slim (.mk k v l)
theorem Slim.here {r:Rng} (h:Slim r):r.ver.pre.length≤8796093022208∧r.ver.build.length≤8796093022208:=by cases h with | mk k v l hp hb _=>exact ⟨hp,hb⟩
theorem Slim.sub {r y:Rng} (h:Slim r) (hy:y ∈ r.subs):Slim y:=by cases h with | mk k v l _ _ hl=>exact hl y hy
theorem Slim.at_ {r:Rng} (h:Slim r) {j:Nat} (hj:j<r.subs.length):Slim (r.subs.getD j noRng):=h.sub (by rw [List.getD_eq_getElem?_getD,List.getElem?_eq_getElem hj]; exact List.getElem_mem _)
theorem slim_of_good:∀ (m:Nat) (r:Rng) (d:Nat),wt r≤m→goodR r d=true→Slim r
 | 0,r,d,hm,_=>by rw [Range.wt_eq] at hm; omega
 | m+1,r,d,hm,h=>by
  have h1:=good_modest h
  have h2:=fun j hj=>good_sub (j:=j) h hj
  rw [Range.wt_eq] at hm
  have h3:∀ y ∈ r.subs,wt y≤m:=fun y hy=>by have:=Range.wt_mem hy; omega
  obtain ⟨k,v,l⟩:=r
  refine .mk k v l (by have:=h1.1; have e:v.pre.length≤16:=this; omega) (by have:=h1.2; have e:v.build.length≤16:=this; omega) fun y hy=>?_
  obtain ⟨j,hj,rfl⟩:=List.getElem_of_mem hy
  obtain ⟨d',hd⟩:=h2 j hj
  have e:(Range.Rng.mk k v l).subs.getD j noRng=l[j]:=by
   show l.getD j noRng=l[j]
   rw [List.getD_eq_getElem?_getD,List.getElem?_eq_getElem hj]; rfl
  rw [e] at hd
  exact slim_of_good m _ d' (h3 _ hy) hd
def Tells (r:Rng) (most z:Int):Prop:=Slim r→0≤most→most≤1000→0≤z∧z≤most+17592186044417∧(z≤most→(tot r:Int)≤z)
theorem great_full:∀ (m:Nat) (r:Rng) (x:RV) (B:Nat) (most:Int) (w:World),wt r≤m→LenOk r→Range.Lies w (LtB B) r x→B≤w.heap.size →
  Calls Tryz.prog 103 #[x.agg,.int .i64 most] w fun e w'=>∃ z:Int,e=.returned (.int .i64 z)∧Tells r most z∧Below w.heap.size w w'
 | 0,r,x,B,d,w,hm,_,hx,hB=>by rw [Range.wt_eq] at hm; omega
 | m+1,r,x,B,most,w,hm,hln0,hx,hB=>by
  have IH:=Lib.hid (fun r x most w=>great_full m r x B most w)
  have hs:=hx.says
  obtain ⟨f,hln,_,_⟩:=hs.subs
  have HB:Hid (Below w.heap.size w (w.alloc x)):=(Below.refl _ _).alloc (Nat.le_refl _) _
  have HRA:Hid (RAt (w.alloc x) w.heap.size x):=RAt.new w _ x
  have HL:=Lib.hid (hx.keep (KeepS.of_below (S:=LtB B) HB.out))
  rw [Range.wt_eq] at hm
  have hlo:=hln0.here
  have HLO:=Lib.hid hln0
  have HT:Hid (tot r=1+x.v.pre.length+x.v.build.length+totL (r.subs.take x.n)):=by
   unfold Hid
   rw [tot_eq,← hln,List.take_length,hs.ver]
  have HM:Hid (Slim r→x.v.pre.length≤8796093022208∧x.v.build.length≤8796093022208):=fun h=>by have:=h.here; rw [hs.ver] at this; exact this
  have hnx:x.n≤9223372036854775807:=by rw [← hln]; exact hlo
  have HLN:=Lib.hid hln
  clear hs hx hln hln0 hlo
  unfold RV.agg
  go_enter Tryz.func103,Tryz.ntmps103
  go_upto_region 1 with (fail)
  generalize w.alloc x=W at HB HRA HL ⊢
  obtain ⟨y1,y2,c0,c1,c2,c3,c4,c5,c6⟩:=HRA.out
  have HN0:Hid (x.v.pre.length≤8796093022208∧x.v.build.length≤8796093022208→wrap64 (wrap64 (1+(x.v.pre.length:Int))+(x.v.build.length:Int))=1+x.v.pre.length+x.v.build.length):=fun h=>by unfold wrap64; omega
  go_wp2
  generalize wrap64 (wrap64 (1+(x.v.pre.length:Int))+(x.v.build.length:Int))=n0 at HN0 ⊢
  generalize wrap64 (1+(x.v.pre.length:Int))=n1
  clear c0 c1 c2 c3 c4 c5 c6 y1 y2
  go_loopw [5,6] (fun nv iv W'=>∃ (n:Int) (k:Nat),nv=.int .i64 n∧k≤x.n∧iv=.int .i64 k∧Hid (Below W.heap.size W W')∧Hid (Slim r→0≤most→most≤1000→0≤n∧n≤most+17592186044417∧(n≤most→((1+x.v.pre.length+x.v.build.length+totL (r.subs.take k):Nat):Int)≤n))) (fun _ iv _=>x.n - (intOf iv).toNat)
  case atStart=>exact ⟨n0,0,rfl,Nat.zero_le _,rfl,Below.refl _ _,fun hg h0 h1=>by
   have hm:=HM.out hg
   have:=HN0.out hm
   refine ⟨by omega,by omega,fun _=>?_⟩
   rw [List.take_zero]
   show ((1+x.v.pre.length+x.v.build.length+0:Nat):Int)≤n0
   omega⟩
  case round =>
   obtain ⟨n,k,rfl,hk,rfl,HB3,HQ⟩:=hrel
   have HR3:=Lib.hid (HRA.out.kept HB3.out HRA.out.1)
   obtain ⟨y1,y2,c0,c1,c2,c3,c4,c5,c6⟩:=HR3.out
   by_cases hlt:k<x.n
   ·by_cases hnm:n≤most
    ·obtain ⟨b,o,c,hLe,hSb,hcl,hcy⟩:=HL.out.says.subs.one hlt
     have hll:k<r.subs.length:=by rw [HLN.out]; exact hlt
     have hmem:r.subs.getD k noRng ∈ r.subs:=by
      rw [List.getD_eq_getElem?_getD,List.getElem?_eq_getElem (by omega)]; exact List.getElem_mem _
     have hwt:wt (r.subs.getD k noRng)≤m:=by have:=Range.wt_mem hmem; omega
     have HTK:=Lib.hid (totL_take r.subs k hll)
     have HSub:Hid (Slim r→Slim (r.subs.getD k noRng)):=fun h=>h.at_ hll
     have hlo:=HLO.out.sub hmem
     generalize r.subs.getD k noRng=q at hcy hwt HTK HSub hlo
     have hcw:=(hcl.keep (KeepS.of_below (S:=LtB B) HB3.out) hSb).cells
     obtain ⟨e0,e1,e2,e3,e4,e5,e6⟩:=hcw
     rw [hLe] at c6 ⊢
     clear hLe
     have HLc:Hid (Range.Lies wr (LtB B) q c):=hcy.keep (KeepS.of_below (S:=LtB B) HB3.out)
     have hBr:B≤wr.heap.size:=Nat.le_trans hB (Nat.le_trans HB.out.size HB3.out.size)
     clear hcl hcy hmem
     go_wp2_with fail
     refine (IH.out q c (wrap64 (most - n)) wr hwt hlo HLc.out hBr).mono ?_
     rintro e W3 ⟨z,rfl,hz,hb⟩
     have HB4:=Lib.hid (HB3.out.trans (hb.mono HB3.out.size))
     have HZ:=Lib.hid hz
     clear hb hz c0 c1 c2 c3 c4 c5 c6 e0 e1 e2 e3 e4 e5 e6 y1 y2 HB3 HR3
     go_wp2
     refine ⟨⟨wrap64 (n+z),k+1,rfl,by omega,by go_num,HB4.out,fun hg h0 h1=>?_⟩,by simp [intOf]; omega⟩
     have q1:=HQ.out hg h0 h1
     have hw1:wrap64 (most - n)=most - n:=by unfold wrap64; omega
     have q2:=HZ.out
     rw [hw1] at q2
     have q3:=q2 (HSub.out hg) (by omega) (by omega)
     have hw2:wrap64 (n+z)=n+z:=by unfold wrap64; omega
     rw [hw2,HTK.out]
     refine ⟨by omega,by omega,fun h=>?_⟩
     have a:=q1.2.2 hnm
     have b:=q3.2.2 (by omega)
     omega
    ·go_wp2
     go_ret
     exact ⟨n,rfl,fun hg h0 h1=>⟨(HQ.out hg h0 h1).1,(HQ.out hg h0 h1).2.1,fun h=>absurd h (by omega)⟩,HB.out.trans (HB3.out.mono HB.out.size)⟩
   ·obtain rfl:k=x.n:=by omega
    go_wp2
    go_ret
    exact ⟨n,rfl,fun hg h0 h1=>⟨(HQ.out hg h0 h1).1,(HQ.out hg h0 h1).2.1,fun h=>by rw [HT.out]; exact (HQ.out hg h0 h1).2.2 h⟩,HB.out.trans (HB3.out.mono HB.out.size)⟩
mutual
theorem wt_tot:∀ r:Rng,wt r≤tot r
 | .mk k v l=>by
  show 1+wtL l≤1+v.pre.length+v.build.length+totL l
  have:=wt_totL l
  omega
theorem wt_totL:∀ l:List Rng,wtL l≤totL l
 | []=>Nat.le_refl _
 | r :: rs=>by
  show wt r+wtL rs≤tot r+totL rs
  have:=wt_tot r
  have:=wt_totL rs
  omega
end
end Go.Proofs.YtgakcdcfblgagaaGreatDoor.Nrm
