/-
  What the theorem of the last text needs of these: SpSets, RgSameMem, RgSevE, RgSevO, SpPlain, RgSame. Conditions: as each theorem states.
-/
import Derived.Test.YtgfbflnhjpbceaaGreatDoorSetB1
import Derived.Test.YtgfbflnhjpbceaaGreatDoorSetB5
import Derived.Test.YtgfbflnhjpbceaaGreatDoorSetB13
import Derived.Test.YtgfbflnhjpbceaaGreatDoorSetB14
import Derived.Test.YtgfbflnhjpbceaaGreatDoorSetB15
import Derived.Test.YtgfbflnhjpbceaaGreatDoorSetB18
import Derived.WalkSmall
import Derived.Laws.OwnMore
import Derived.StillTailTactics
import Derived.Deep.CutBlock
import Derived.Deep.DeepCutAuto
import Derived.Deep.RegionHeld3
set_option maxRecDepth 100000
set_option maxHeartbeats 25600000
namespace Go.Proofs.YtgfbflnhjpbceaaGreatDoor.Span
open Go.RowKit Num Ident Semver Prec

theorem right_of {l:List RSp} {step:Int} {re:List REdge} (h:re.map REdge.edge=edgesOf (l.map RSp.sp) step):∀ e ∈ re,right e.cut.cut=true:=fun e he =>
 edgesOf_right (l.map RSp.sp) step e.edge (by rw [← h]; exact List.mem_map_of_mem he)
theorem step_of {l:List RSp} {step:Int} {re:List REdge} (h:re.map REdge.edge=edgesOf (l.map RSp.sp) step) (h1:-10≤step) (h2:step≤10):∀ e ∈ re,-10≤e.step∧e.step≤10:=fun e he=>by
 have hm:e.edge ∈ edgesOf (l.map RSp.sp) step:=by rw [← h]; exact List.mem_map_of_mem he
 have:=edgesOf_step _ _ _ hm
 show -10≤e.edge.step∧e.edge.step≤10
 rcases this with h | h <;> rw [h] <;> omega
theorem go_half (n:Int):∀ (l:List Edge) (cut:Cut) (was:Bool) (t:Int) (lo:Cut),2 * (go n cut was t lo l).length≤l.length+(if was=true then 1 else 0)
 | [],_,_,_,_=>by rw [go]; simp
 | [e],cut,was,t,lo=>by
  rw [go]
  by_cases h:was=true∧¬ n≤t+e.step
  ·rw [if_pos h,if_pos h.1]; simp
  ·rw [if_neg h]; simp
 | e :: f :: r,cut,was,t,lo=>by
  rw [go]
  by_cases h1:stand cut f.cut=0
  ·rw [if_pos h1]
   have:=go_half n (f :: r) cut was (t+e.step) lo
   rw [List.length_cons]; omega
  ·rw [if_neg h1]
   by_cases h2:n≤t+e.step∧was=false
   ·rw [if_pos h2]
    have:=go_half n (f :: r) f.cut true (t+e.step) cut
    rw [if_pos rfl] at this
    rw [h2.2,if_neg (by simp),List.length_cons]; omega
   ·rw [if_neg h2]
    by_cases h3:was=true∧¬ n≤t+e.step
    ·rw [if_pos h3,if_pos h3.1]
     have:=go_half n (f :: r) f.cut false (t+e.step) lo
     rw [if_neg (by simp)] at this
     rw [List.length_cons,List.length_cons]; omega
    ·rw [if_neg h3]
     have:=go_half n (f :: r) f.cut was (t+e.step) lo
     rw [List.length_cons]; omega
theorem sweep_half {n:Int} (hn:0<n) (l:List Edge):2 * (sweepL n l).length≤l.length:=by
 cases l with
 | nil=>simp [sweepL]
 | cons e r =>
  unfold sweepL
  have:=go_half n (e :: r) e.cut (decide (n≤0)) 0 low
  rw [if_neg (by simp; omega)] at this
  exact this
def OwnsS (w:World) (B:Nat) (s:RSp):Prop:=OwnC w B s.lo∧OwnC w B s.hi
theorem OwnC.cap {w:World} {B:Nat} {r:RCut} (h:OwnC w B r):r.v.pre.length≤r.c:=by
 obtain ⟨A,c,e,hc,_⟩:=SRow.of_own h.own
 injection e with e1 e2 e3
 rw [e3]; exact hc
theorem OwnsS.kept {w w':World} {B:Nat} {s:RSp} (h:OwnsS w B s) (hb:Below w.heap.size w w'):OwnsS w' B s:=⟨h.1.kept hb,h.2.kept hb⟩
theorem OwnsS.mono {w:World} {B B':Nat} {s:RSp} (h:OwnsS w B s) (hB:B'≤B):OwnsS w B' s:=⟨h.1.mono hB,h.2.mono hB⟩
theorem OwnsS.lies {w:World} {B:Nat} {s:RSp} (h:OwnsS w B s):LiesS w s:=⟨h.1.lies,h.2.lies⟩
theorem OwnsS.grown {w w':World} {B B2:Nat} {s:RSp} {set:Value} {n:Nat} {xs:List Value} (h:OwnsS w B s) (hs:w.ownsRow B2 43 12 set n xs) (hg:w.grownBy w' set.ownBlock):OwnsS w' B s:=⟨h.1.grown hs hg,h.2.grown hs hg⟩
def SetIn (w:World) (k:Nat) (P:List Sp→Prop) (e:Ending) (w':World):Prop :=
 ∃ (A:Option Addr) (n c:Nat) (out:List RSp),e=.returned (.slice A n c)∧SpRow w' A n out∧n≤k∧P (out.map RSp.sp)∧(∀ s ∈ out,OwnsS w' w.heap.size s)∧n≤c∧(A=none→c=0)∧Below w.heap.size w w'
theorem setIn_of {w1:World} {m:Int} {re0:List REdge} {k:Nat} {P:List Sp→Prop} {e:Ending} {w':World} (hm:0<m) (h:SweepPost w1 m re0 e w') (hn:re0.length≤2 * k)
  (hP:∀ l:List Edge,l.Perm (re0.map REdge.edge)→(l.Pairwise fun x y=>stand x.cut y.cut≤0)→P (sweepL m l)):SetIn w1 k P e w':=by
 obtain ⟨B,set,out,re,rfl,hp,hs,hq,hB,ho,hc,hl,hb⟩:=h
 obtain ⟨A,c,rfl,hcap,hnil,hcell⟩:=own_cells svals_len ho rfl
 refine ⟨A,out.length,c,out,rfl,⟨rfl,fun s hs=>⟨(hc s hs).1.lies,(hc s hs).2.lies⟩,fun h0=>?_⟩,?_,?_,fun s hs=>⟨(hc s hs).1.mono hB,(hc s hs).2.mono hB⟩,hcap,hnil,hb⟩
 ·obtain ⟨g,h1,_,h2,_,h3⟩:=hcell h0
  exact ⟨g,0,h1,h2,h3⟩
 ·have h1:=sweep_half hm (re.map REdge.edge)
  rw [← hq,List.length_map,List.length_map,hp.length_eq] at h1
  omega
 ·rw [hq]; exact hP _ (hp.map _) (List.pairwise_map.2 hs)
theorem SetIn.mono {w w1:World} {k:Nat} {P:List Sp→Prop} {e:Ending} {w':World} (h:SetIn w1 k P e w') (hb:Below w.heap.size w w1):SetIn w k P e w':=by
 obtain ⟨A,n,c,out,h1,h2,h3,h4,h5,h6,h7,h8⟩:=h
 exact ⟨A,n,c,out,h1,h2,h3,h4,fun s hs=>(h5 s hs).mono hb.size,h6,h7,hb.trans (h8.mono hb.size)⟩
theorem edges_out {w:World} {l:List RSp} {step:Int} {e:Ending} {w':World} (h:EdgesPost w l step e w'):∃ (A:Option Addr) (c:Nat) (re:List REdge),e=.returned (.slice A re.length c)∧w'.ownsRow w.heap.size 111 7 (.slice A re.length c) re.length (re.flatMap REdge.vals)∧re.map REdge.edge=edgesOf (l.map RSp.sp) step∧(∀ e ∈ re,Lies w e.cut)∧re.length≤2 * l.length∧Below w.heap.size w w':=by
 obtain ⟨v,re,rfl,h1,h2,h3,h4,h5⟩:=h
 obtain ⟨A,c,rfl,_⟩:=own_cells evals_len h1 rfl
 exact ⟨A,c,re,rfl,h1,h2,h3,h4,h5⟩
def NormalOf (l:List Sp) (o:List Sp):Prop:=Norm o∧∀ c,inS o c↔inR l c

theorem normal_in (A:Option Addr) (n c:Nat) (l:List RSp) (w:World) (hr:SpRow w A n l) (hn:n≤5000) :
  Calls Tryz.prog 23 #[.slice A n c] w (SetIn w n (NormalOf (l.map RSp.sp))):=by
 have HR:=Lib.hid hr
 have HL:=Lib.hid hr.1
 clear hr
 go_enter Tryz.func23,Tryz.ntmps23
 go_wp2_with fail
 refine (edges_any A n c l 1 _ HR.out (by omega) (by omega) (by omega)).mono ?_
 intro e w1 h1
 obtain ⟨A1,c1,re,rfl,ho,hm,hl,hk,hb⟩:=edges_out h1
 have HO:=Lib.hid ho
 have HM:=Lib.hid hm
 have HI:=Lib.hid hl
 have HB:=Lib.hid hb
 have hk2:re.length≤2 * n:=by rw [HL.out] at hk; omega
 clear ho hm hl hb h1 hk
 go_wp2_with fail
 refine (atLeast_any 1 _).mono ?_
 rintro e w2 ⟨rfl,rfl⟩
 go_wp2_with fail
 refine (sweep_any w _ w.heap.size _ re w1.heap.size 1 (HO.out.alloc _) HI.out (HB.out.alloc HB.out.size _) (Nat.le_refl _) (by simp) (by simp [go_sem]) (fun h=>by have:=(HO.out.lt _ h).2; omega) (right_of HM.out) (step_of HM.out (by omega) (by omega)) (by omega)).mono ?_
 intro e w3 h3
 have HS:=Lib.hid (setIn_of (P:=NormalOf (l.map RSp.sp)) (by omega) h3 hk2 (fun E hp hs=>by
  rw [HM.out] at hp
  have hr:∀ e ∈ E,right e.cut=true:=fun e he=>edgesOf_right _ _ e (hp.mem_iff.1 he)
  obtain ⟨k1,k2⟩:=sweep_norm (n:=1) (by omega) hs hr (by rw [total_perm hp,edgesOf_total]; omega)
  refine ⟨k1,fun c=>(k2 c).trans ?_⟩
  rw [cov_perm hp,edgesOf_cov,← times_pos]; omega))
 obtain ⟨A3,n3,c3,out,rfl,q1,q2,q3,q4,q5,q6,q7⟩:=HS.out
 clear h3
 go_wp2
 go_ret
 exact HS.out

theorem two_sets {m s1 s2:Int} (hm:0<m) {l1 l2:List Sp} {E:List Edge} (hp:E.Perm (edgesOf l1 s1 ++ edgesOf l2 s2)) (hs:E.Pairwise fun x y=>stand x.cut y.cut≤0) :
  Norm (sweepL m E)∧∀ c,inS (sweepL m E) c↔m≤s1 * (times l1 c:Int)+s2 * (times l2 c:Int):=by
 have hr:∀ e ∈ E,right e.cut=true:=fun e he=>by
  rcases List.mem_append.1 (hp.mem_iff.1 he) with h | h
  ·exact edgesOf_right _ _ e h
  ·exact edgesOf_right _ _ e h
 obtain ⟨k1,k2⟩:=sweep_norm hm hs hr (by rw [total_perm hp,total_append,edgesOf_total,edgesOf_total]; omega)
 refine ⟨k1,fun c=>(k2 c).trans ?_⟩
 rw [cov_perm hp,cov_append,edgesOf_cov,edgesOf_cov]
def UnionOf (a b:List Sp) (o:List Sp):Prop:=Norm o∧∀ c,inS o c↔inR a c∨inR b c
def NotOf (l:List Sp) (o:List Sp):Prop:=Norm o∧∀ c,inS o c↔inOne ⟨low,high⟩ c∧¬ inR l c
theorem union_of {a b:List Sp} {E:List Edge} (hp:E.Perm (edgesOf a 1 ++ edgesOf b 1)) (hs:E.Pairwise fun x y=>stand x.cut y.cut≤0):UnionOf a b (sweepL 1 E):=by
 obtain ⟨h1,h2⟩:=two_sets (m:=1) (by omega) hp hs
 refine ⟨h1,fun c=>(h2 c).trans ?_⟩
 rw [← times_pos,← times_pos]; omega
theorem all_norm:Norm [⟨low,high⟩]:=⟨fun s hs=>by rw [List.mem_singleton] at hs; subst hs; exact (cnt_iff _).2 ⟨low_right,high_right,low_high⟩,List.pairwise_singleton _ _⟩
theorem not_of {l:List Sp} {E:List Edge} (hp:E.Perm (edgesOf [⟨low,high⟩] 1 ++ edgesOf l (-1))) (hs:E.Pairwise fun x y=>stand x.cut y.cut≤0):NotOf l (sweepL 1 E):=by
 obtain ⟨h1,h2⟩:=two_sets (m:=1) (by omega) hp hs
 refine ⟨h1,fun c=>(h2 c).trans ?_⟩
 have e:inOne ⟨low,high⟩ c↔1≤times [⟨low,high⟩] c:=by
  rw [times_pos,all_norm.inR]
  exact ⟨fun h=>⟨_,List.mem_singleton.2 rfl,h⟩,fun ⟨s,hs,h⟩=>by rw [List.mem_singleton] at hs; subst hs; exact h⟩
 rw [e,← times_pos]
 have:=all_norm.once c
 omega

theorem SpRow.one (w:World) (s:RSp) (h:LiesS w s):SpRow (w.alloc (.cells s.vals.toArray 43)) (some ⟨w.heap.size,0,none⟩) 1 [s]:=by
 refine ⟨rfl,fun x hx=>?_,fun _=>⟨w.heap.size,0,rfl,by simp,fun j hj i v hv=>?_⟩⟩
 ·rw [List.mem_singleton] at hx; subst hx; exact h.kept ((Below.refl _ _).alloc (Nat.le_refl _) _)
 ·obtain rfl:j=0:=by omega
  have:=news_new w s.vals 43 i v hv
  rw [add_none] at this
  simpa using this

theorem not_in (A:Option Addr) (n c:Nat) (l:List RSp) (w:World) (hr:SpRow w A n l) (hn:n≤5000) :
  Calls Tryz.prog 58 #[.slice A n c] w (SetIn w (1+n) (NotOf (l.map RSp.sp))):=by
 have HB0:Hid (Below w.heap.size w (w.alloc (.cells #[.int .i64 0,.int .u64 0,.int .u64 0,.int .u64 0,.slice none 0 0,.slice none 0 0,.int .i64 3,.int .u64 0,.int .u64 0,.int .u64 0,.slice none 0 0,.slice none 0 0] 43))):=(Below.refl _ _).alloc (Nat.le_refl _) _
 have HR0:Hid (SpRow (w.alloc (.cells #[.int .i64 0,.int .u64 0,.int .u64 0,.int .u64 0,.slice none 0 0,.slice none 0 0,.int .i64 3,.int .u64 0,.int .u64 0,.int .u64 0,.slice none 0 0,.slice none 0 0] 43)) (some ⟨w.heap.size,0,none⟩) 1 [⟨rlow,rhigh⟩]):=SpRow.one w ⟨rlow,rhigh⟩ ⟨Lies.low _,Lies.high _⟩
 have HR:=Lib.hid (hr.kept HB0.out)
 have HL:=Lib.hid hr.1
 clear hr
 go_enter Tryz.func58,Tryz.ntmps58
 go_upto_region 2 with (fail)
 generalize w.alloc (.cells #[.int .i64 0,.int .u64 0,.int .u64 0,.int .u64 0,.slice none 0 0,.slice none 0 0,.int .i64 3,.int .u64 0,.int .u64 0,.int .u64 0,.slice none 0 0,.slice none 0 0] 43)=w0 at HB0 HR0 HR ⊢
 go_wp2_with fail
 refine (edges_any _ 1 _ [⟨rlow,rhigh⟩] 1 _ HR0.out (by omega) (by omega) (by omega)).mono ?_
 intro e w1 h1
 obtain ⟨A1,c1,re1,rfl,ho,hm,hl,hk1,hb⟩:=edges_out h1
 have HO1:=Lib.hid ho
 have HM1:=Lib.hid hm
 have HI1:=Lib.hid hl
 have HB1:=Lib.hid (HB0.out.trans (hb.mono HB0.out.size))
 have HC1:=Lib.hid hb
 clear ho hm hl hb h1
 go_wp2_with fail
 refine (edges_any _ n _ l (-1) _ (HR.out.kept HC1.out) (by omega) (by omega) (by omega)).mono ?_
 intro e w2 h2
 obtain ⟨A2,c2,re2,rfl,ho,hm,hl,hk2,hb⟩:=edges_out h2
 have HO2:=Lib.hid ho
 have HM2:=Lib.hid hm
 have HI2:=Lib.hid hl
 have HB2:=Lib.hid (HB1.out.trans (hb.mono HB1.out.size))
 have HC2:=Lib.hid hb
 clear ho hm hl hb h2
 have hka:re1.length≤2:=by simpa using hk1
 have hkb:re2.length≤2 * n:=by rw [HL.out] at hk2; omega
 have hkk:(re1 ++ re2).length≤2+2 * n:=by rw [List.length_append]; omega
 have AQ:=Lib.hid ((Below.refl w2.heap.size w2).alloc (Nat.le_refl _) (.cells #[.slice A1 re1.length c1,.slice A2 re2.length c2] 63))
 have X1:=Lib.hid (own_below HO1.out HC2.out)
 have S1:=Lib.hid ((EdSrc.of_own X1.out).kept AQ.out)
 have S2:=Lib.hid ((EdSrc.of_own HO2.out).kept AQ.out)
 have BQ:=Lib.hid (HB2.out.trans (AQ.out.mono HB2.out.size))
 have IQ:Hid (∀ e ∈ re1 ++ re2,Lies (w2.alloc (.cells #[.slice A1 re1.length c1,.slice A2 re2.length c2] 63)) e.cut):=fun e he=>by
  rcases List.mem_append.1 he with he | he
  ·exact (((HI1.out e he).kept HC1.out).kept HC2.out).kept AQ.out
  ·exact ((HI2.out e he).kept HC2.out).kept AQ.out
 have HMM:=Lib.hid ((List.map_append (f:=REdge.edge) (l₁:=re1) (l₂:=re2)).trans (congr (congrArg _ HM1.out) HM2.out))
 have HRR:Hid (∀ e ∈ re1 ++ re2,right e.cut.cut=true):=fun e he=>(List.mem_append.1 he).elim (right_of HM1.out e) (right_of HM2.out e)
 have HST:Hid (∀ e ∈ re1 ++ re2,-10≤e.step∧e.step≤10):=fun e he=>(List.mem_append.1 he).elim (step_of HM1.out (by omega) (by omega) e) (step_of HM2.out (by omega) (by omega) e)
 go_wp2_with fail
 refine (concat_any w2.heap.size _ _ re1 re2 _ (by simp) (by simp [go_sem]) (by simp [go_sem]) S1.out S2.out (by omega) (by omega)).mono ?_
 rintro e w8 ⟨v8,rfl,ho8,hb8⟩
 generalize re1 ++ re2=rr at ho8 hkk IQ HMM HRR HST
 obtain ⟨A8,c8,rfl,_⟩:=own_cells evals_len ho8 rfl
 have O8:=Lib.hid ho8
 have B8:=Lib.hid hb8
 clear ho8 hb8
 generalize (w2.alloc (.cells #[.slice A1 re1.length c1,.slice A2 re2.length c2] 63))=WQ at BQ IQ O8 B8
 go_wp2_with fail
 refine (atLeast_any 1 _).mono ?_
 rintro e w9 ⟨rfl,rfl⟩
 go_wp2_with fail
 refine (sweep_any WQ _ WQ.heap.size _ rr w8.heap.size 1 (O8.out.alloc _) IQ.out (B8.out.alloc B8.out.size _) (Nat.le_refl _) (by simp) (by simp [go_sem]) (fun h=>by have:=(O8.out.lt _ h).2; omega) HRR.out HST.out (by omega)).mono ?_
 intro e wz hz
 have HS:=Lib.hid ((setIn_of (P:=NotOf (l.map RSp.sp)) (k:=1+n) (by omega) hz (by omega) (fun E hp hs=>by
  rw [HMM.out] at hp
  exact not_of hp hs)).mono BQ.out)
 obtain ⟨A3,n3,c3,out,rfl,q1,q2,q3,q4,q5,q6,q7⟩:=HS.out
 clear hz
 go_wp2
 go_ret
 exact HS.out
end Go.Proofs.YtgfbflnhjpbceaaGreatDoor.Span
namespace Go.Proofs.YtgfbflnhjpbceaaGreatDoor.Range
open Go.RowKit Num Ident Semver
structure Ent where
 l:List Rng
 A:Option Addr
 e:Nat
 B:Option Addr
 f:Nat
def Ent.vals (x:Ent):List Value:=[.slice x.A x.l.length x.e,.slice x.B x.l.length x.f]
def LtB (B g:Nat):Prop:=g<B
theorem KeepS.lt {w w':World} {B:Nat} (h:Below B w w'):KeepS (LtB B) w w':=⟨h.size,fun g o _ hg hc=>(h.cell (p:=⟨g,o,none⟩) hg).trans hc⟩
structure EntOk (W:World) (B:Nat) (x:Ent):Prop where
 a:RgRow W (LtB B) x.A x.l.length x.l
 b:RgRow W (LtB B) x.B x.l.length x.l
 pos:0<x.l.length
theorem RgRow.one {w:World} {S:Nat→Prop} {L:Option Addr} {n:Nat} {l:List Rng} (h:RgRow w S L n l) {j:Nat} (hj:j<n):∃ b o x,L=some ⟨b,o,none⟩∧S b∧CellsAt w b (o+j * 7) x∧Lies w S (l.getD j noRng) x:=by
 obtain ⟨f,_,h2,h3⟩:=h
 obtain ⟨b,o,e,hb,hc⟩:=h2 (by omega)
 exact ⟨b,o,f j,e,hb,hc j hj,h3 j hj⟩
structure Two (W:World) (B j:Nat) (x:Ent) (r:Rng) (b o b' o':Nat) (s t:RV):Prop where
 lt:b<B
 lt':b'<B
 cs:CellsAt W b (o+j * 7) s
 ct:CellsAt W b' (o'+j * 7) t
 p1:SRow W s.A s.v.pre.length s.v.pre
 p2:SRow W s.B s.v.build.length s.v.build
 q1:SRow W t.A s.v.pre.length s.v.pre
 q2:SRow W t.B s.v.build.length s.v.build
 fit:FitV s.v
 ra:RgRow W (LtB B) s.L s.n r.subs
 rb:RgRow W (LtB B) t.L s.n r.subs
 kind:t.kind=s.kind
 ver:t.v=s.v
 n:t.n=s.n
 len:s.n=r.subs.length
end Go.Proofs.YtgfbflnhjpbceaaGreatDoor.Range
namespace Go.Proofs.YtgfbflnhjpbceaaGreatDoor.Range
open Go.RowKit Num Ident Semver

def SevJE (w:World) (b:Nat) (A:Option Addr) (n c:Nat) (l:List UInt8) (kind deep:Int) (pf:List UInt8→Out) (fur:List UInt8→Option (List UInt8)) (tot:Out) (a':Act) (W:World):Prop :=
 ∃ (acc:List Rng) (xs:List RV) (q:Nat) (t:List UInt8) (k:Nat) (v:Value) (u11 u12 u13 u14 u15 u16 u17 u18 u19 u20 u21 u22 u23 u24 u25 u26 u27 u28 u29 u30 u31 u32 u33 u34 u35:Value),Rd W b A n c q∧Pl l q t∧Moved b w W∧RAt W w.heap.size (zeroRV 0)∧OwnRg W (w.heap.size+1) v acc xs∧acc.length+t.length≤l.length∧t.length<k∧sev pf fur kind k acc t=tot ∧
  a'={ tmps:=#[.int .i64 kind,.int .i64 deep,.func (.func 114) #[.pointer (some ⟨b,0,none⟩)] #[],.func (.func 115) #[.pointer (some ⟨b,0,none⟩)] #[],undef,undef,undef,undef,.pointer (some ⟨w.heap.size,0,none⟩),.int .i64 0,v,u11,u12,u13,u14,u15,u16,u17,u18,u19,u20,u21,u22,u23,u24,u25,u26,u27,u28,u29,u30,u31,u32,u33,u34,u35],defers:=[] }
theorem severalE (b:Nat) (A:Option Addr) (n c p:Nat) (l s:List UInt8) (kind deep:Int) (pf:List UInt8→Out) (fur:List UInt8→Option (List UInt8)) (w:World) (hR:Rd w b A n c p) (hr:Row w A n l) (hn:n≤30000000) (hs:Pl l p s) (ht:OpsTab w) (hpr:Prog pf) (hfa:Falls fur) (hpc:∀ s,Piece (pf s).2.1 s)
  (hp:∀ W q t,Rd W b A n c q→Row W A n l→OpsTab W→Pl l q t→Calls Tryz.prog 114 #[.pointer (some ⟨b,0,none⟩),.int .i64 deep] W (RgPost b A n c l W (pf t)))
  (hf:∀ W q t,Rd W b A n c q→Row W A n l→Pl l q t→Calls Tryz.prog 115 #[.pointer (some ⟨b,0,none⟩)] W (FurPost b A n c q l W (fur t))) :
  Calls Tryz.prog 113 #[.int .i64 kind,.int .i64 deep,.func (.func 114) #[.pointer (some ⟨b,0,none⟩)] #[],.func (.func 115) #[.pointer (some ⟨b,0,none⟩)] #[]] w (RgPost b A n c l w (sev pf fur kind (s.length+1) [] s)):=by
 have hbw:=hR.lt
 have HP:=Lib.hid hs
 have HL:=Lib.hid hr.1
 have HR:=Lib.hid hR
 have HRow:=Lib.hid hr
 have HT:=Lib.hid ht
 have HPR:=Lib.hid hpr
 have HFA:=Lib.hid hfa
 have HPC:=Lib.hid hpc
 have HPF:=Lib.hid hp
 have HFU:=Lib.hid hf
 have H7:Hid (RAt (w.alloc ()) w.heap.size (zeroRV 0)):=RAt.new w 28 (zeroRV 0)
 have HM:Hid (Moved b w (w.alloc ())):=(Moved.refl b w).alloc hbw _
 have hne:w.heap.size≠b:=by omega
 clear hR hr hs ht hpr hfa hpc hp hf
 obtain ⟨tot,htot⟩:∃ tot,sev pf fur kind (s.length+1) [] s=tot:=⟨_,rfl⟩
 rw [htot]
 have HTot:=Lib.hid htot
 clear htot
 go_enter Tryz.func113,Tryz.ntmps113
 go_wp2
 refine wp_scope_back 0 (SevJE w b A n c l kind deep pf fur tot) (PsM b n) rfl ?_ ?_
 ·rintro a' W ⟨acc,xs,q,t,k,v,u11,u12,u13,u14,u15,u16,u17,u18,u19,u20,u21,u22,u23,u24,u25,u26,u27,u28,u29,u30,u31,u32,u33,u34,u35,hR1,hP1,hM1,h71,hO1,hlen,hk,htot,rfl⟩
  have HK1:=Lib.hid (HR.out.keep hM1)
  have HRow1:=Lib.hid (row_keep HRow.out HK1.out)
  have HT1:=Lib.hid (HT.out.keep HK1.out)
  have HR1:=Lib.hid hR1
  have HP1:=Lib.hid hP1
  have HM1:=Lib.hid hM1
  have H71:=Lib.hid h71
  have HO1:=Lib.hid hO1
  have HTo:=Lib.hid htot
  have hz1:w.heap.size<W.heap.size:=h71.1
  obtain ⟨k,rfl⟩:∃ j,k=j+1:=⟨k - 1,by omega⟩
  have HRq:=Lib.hid HR1.out
  clear hR1 hP1 hM1 h71 hO1 htot
  go_wp2_with fail
  refine (HPF.out W q t HR1.out HRow1.out HT1.out HP1.out).mono ?_
  rintro e W1 ⟨x,q1,rfl,hx,hP2,hR2,hM2⟩
  unfold RV.agg
  obtain ⟨⟨f,s1,r⟩,hpt⟩:∃ y,pf t=y:=⟨_,rfl⟩
  have HB:=Lib.hid (sev_bad (pf:=pf) (ff:=fur) (kind:=kind) (n:=k) (acc:=acc) (s:=t))
  have HO_:=Lib.hid (fun s'=>sev_on (pf:=pf) (ff:=fur) (kind:=kind) (n:=k) (acc:=acc) (s:=t) (s':=s'))
  have HE:=Lib.hid (sev_end (pf:=pf) (ff:=fur) (kind:=kind) (n:=k) (acc:=acc) (s:=t))
  have HG:=Lib.hid (HPR.out t)
  have HPc:=Lib.hid (HPC.out t)
  rw [hpt] at hx hP2 HB HO_ HE HG HPc ⊢
  simp only at hx hP2 HB HO_ HE HG HPc ⊢
  clear hpt
  have HX1:Hid (Lies W1 (From (w.heap.size+1)) r x):=hx.from_ hz1
  have HXW:Hid (Lies W1 (From W.heap.size) r x):=hx
  have HP2:=Lib.hid hP2
  have HR2:=Lib.hid hR2
  have HM2:=Lib.hid (HM1.out.trans hM2)
  have H72:=Lib.hid (H71.out.moved hM2 hne)
  have HO2:=Lib.hid (HO1.out.moved hM2 (by omega))
  have HOwn:=Lib.hid (fun g h=>(HO1.out.own.lt g h).2)
  have hz2:w.heap.size<W1.heap.size:=H72.out.1
  have hzW:W.heap.size≤W1.heap.size:=hM2.size
  have HRow2:=Lib.hid (row_keep HRow.out (HR.out.keep HM2.out))
  clear hx hP2 hR2 hM2 HR1 HM1 H71 HO1 HRow1 HT1
  by_cases h0:f=0
  ·subst h0
   have hr3:Hid (Rd (W1.alloc x) b A n c q1):=HR2.out.alloc _
   have hm3:Hid (Moved b w (W1.alloc x)):=HM2.out.alloc hbw _
   have h73:Hid (RAt (W1.alloc x) w.heap.size (zeroRV 0)):=H72.out.kept ((Below.refl W1.heap.size W1).alloc (Nat.le_refl _) _) hz2
   have ho3:Hid (OwnRg (W1.alloc x) (w.heap.size+1) v acc xs):=HO2.out.kept ((Below.refl _ _).alloc (Nat.le_refl _) _)
   have hx3:Hid (Lies (W1.alloc x) (From W.heap.size) r x):=HXW.out.keep (KeepS.alloc _ _)
   have ha3:Hid (RAt (W1.alloc x) W1.heap.size x):=RAt.new W1 28 x
   have hw3:Hid (Row (W1.alloc x) A n l):=HRow2.out.kept ((Below.refl _ _).alloc (Nat.le_refl _) _)
   have hacc:(acc.length+1) * 104≤140737488355328:=by rw [HL.out] at hlen; omega
   clear HR2 HM2 H72 HO2 HRow2 HX1 HXW
   obtain ⟨g1,g2,d0,d1,d2,d3,d4,d5,d6⟩:=ha3.out
   go_wp2_with (first
    | (at_builtin
       have ho4:Hid (OwnRg ((W1.alloc x).alloc x) (w.heap.size+1) v acc xs):=ho3.out.kept ((Below.refl _ _).alloc (Nat.le_refl _) _)
       refine wpList_append_rg _ rfl _ _ rfl (w.heap.size+1) v acc.length xs rfl ho4.out.own ⟨W1.heap.size+1,0,none⟩ x rfl (fun j u hu=>by have:=news_new (W1.alloc x) x.vals 28 j u hu; rw [size_alloc] at this; exact this) hacc (by simp; omega) ?_
       intro v' W4 hown hgr hat
       have hR4:Hid (Rd W4 b A n c q1):=(hr3.out.alloc _).grown hgr (by simp; intro e; have:=(ho4.out.own.lt b e.symm).1; omega)
       have hM4:Hid (Moved b w W4):=(hm3.out.alloc hbw _).grown hgr hbw (fun g e=>Nat.le_of_succ_le (ho4.out.own.lt g e).1)
       have h74:Hid (RAt W4 w.heap.size (zeroRV 0)):=(h73.out.kept ((Below.refl _ _).alloc (Nat.le_refl _) _) (by simp; omega)).grown hgr (by intro e; have:=(ho4.out.own.lt _ e.symm).1; omega)
       have hA4:Hid (RAt W4 W1.heap.size x):=(ha3.out.kept ((Below.refl _ _).alloc (Nat.le_refl _) _) (by simp)).grown hgr (by intro e; have:=HOwn.out _ e.symm; omega)
       have hO4:Hid (OwnRg W4 (w.heap.size+1) v' (acc ++ [r]) (xs ++ [x])):=ho4.out.more hown hgr hat (hx3.out.keep (KeepS.alloc _ _)) hz1 HOwn.out
       have hW4:Hid (Row W4 A n l):=row_keep HRow.out (HR.out.keep hM4.out)
       have hX4:Hid (Lies W4 (From (w.heap.size+1)) r x):=by
        have h1:Lies ((W1.alloc x).alloc x) (fun g=>From (w.heap.size+1) g∧some g≠v.ownBlock) r x:=(hx3.out.keep (KeepS.alloc _ _)).mono fun g hS _=>⟨Nat.le_trans hz1 hS,fun e=>by have:=HOwn.out _ e.symm; unfold From at hS; omega⟩
        exact (h1.keep (KeepS.grown hgr fun g hS=>hS.2)).mono fun g hS _=>hS.1
       clear hown hgr hat)
    | fail)
   clear g1 g2 d0 d1 d2 d3 d4 d5 d6 hr3 hm3 h73 ho3 hx3 ha3 hw3
   refine (HFU.out W4 q1 s1 hR4.out hW4.out HP2.out).mono ?_
   rintro e W5 ⟨hM5,hfp⟩
   have HM5:=Lib.hid (hM4.out.trans hM5)
   have H75:=Lib.hid (h74.out.moved hM5 hne)
   have HA5:=Lib.hid (hA4.out.moved hM5 (by omega))
   have HO5:=Lib.hid (hO4.out.moved hM5 (by omega))
   have HX5:Hid (Lies W5 (From (w.heap.size+1)) r x):=hX4.out.keep (KeepS.moved hM5 (fun h=>by unfold From at h; omega))
   clear hM5 hR4 hM4 h74 hA4 hO4 hW4 hX4
   have hprog:=HG.out (by first | rfl | trivial)
   cases hfu:fur s1 with
   | some s2 =>
    rw [hfu] at hfp
    obtain ⟨rfl,q2,hp5,hr5⟩:=hfp
    have HTo2:Hid (sev pf fur kind k (acc ++ [r]) s2=tot):=by
     have:=HO_.out s2 (by first | rfl | trivial) hfu
     exact this.symm.trans HTo.out
    have hl2:=HFA.out s1 s2 hfu
    have HR5:=Lib.hid hr5
    have HP5:=Lib.hid hp5
    clear hr5 hp5 hfu
    go_wp2
    go_step3
    refine ⟨rfl,⟨acc ++ [r],xs ++ [x],q2,s2,k,v',_,_,_,_,_,_,_,_,_,_,_,_,_,_,_,_,_,_,_,_,_,_,_,_,_,HR5.out,HP5.out,HM5.out,H75.out,HO5.out,by rw [List.length_append,List.length_singleton]; omega,by omega,HTo2.out,rfl⟩,?_⟩
    have e1:=HP1.out.len
    have e2:=HP5.out.len
    have e3:=HP1.out.le
    have e4:=HP5.out.le
    exact psM_less HR5.out HRq.out (by rw [HL.out] at e1 e2 e3 e4; omega)
   | none =>
    rw [hfu] at hfp
    obtain ⟨rfl,hr5⟩:=hfp
    have HTo2:Hid (tot=(0,s1,whole kind acc r)):=by
     have:=HE.out (by first | rfl | trivial) hfu
     exact HTo.out.symm.trans this
    have HR5:=Lib.hid hr5
    clear hr5 hfu
    obtain ⟨L,e,rfl,he,hnil,hrow⟩:=HO5.out.row
    have HRw:=Lib.hid hrow
    clear hrow HO5
    obtain ⟨y1,y2,c0,c1,c2,c3,c4,c5,c6⟩:=H75.out
    obtain ⟨g1,g2,d0,d1,d2,d3,d4,d5,d6⟩:=HA5.out
    have hw1:W1.heap.size≠w.heap.size:=by omega
    by_cases hac:acc=[]
    ·subst hac
     have HTo3:Hid (tot=(0,s1,r)):=HTo2.out
     go_wp2
     simp only [Exit.jump]
     exact bodyPost_ret (v:=.tuple #[.agg #[x.kind,x.v.a,x.v.b,x.v.c,.slice x.A x.v.pre.length x.c,.slice x.B x.v.build.length x.d,.slice x.L x.n x.e],.int .i64 0]) (by simp [results,Tryz.results113,go_sem,c0,c1,c2,c3,c4,c5,c6]) rfl (by rw [HTo3.out]; exact rg_end (x:=x) hbw HX5.out HP2.out HR5.out HM5.out)
    ·have hl2:(acc ++ [r]).length≠1:=by
      cases acc with
      | nil=>exact absurd rfl hac
      | cons=>simp
     have HTo3:Hid (tot=(0,s1,.mk kind noVer (acc ++ [r]))):=by have:=HTo2.out; unfold whole at this; rw [if_neg hac] at this; exact this
     generalize acc ++ [r]=al at hl2 he HRw HTo3 ⊢
     have hb1:((al.length:Int) == 1)=false:=by simp; omega
     go_wp2
     simp only [Exit.jump]
     exact bodyPost_ret (v:=.tuple #[.agg #[.int .i64 kind,.int .u64 0,.int .u64 0,.int .u64 0,.slice none 0 0,.slice none 0 0,.slice L al.length e],.int .i64 0]) (by simp [results,Tryz.results113,go_sem,c0,c1,c2,c3,c4,c5,c6]) rfl (by rw [HTo3.out]; exact rg_end (x:=⟨kind,noVer,none,0,none,0,L,al.length,e⟩) hbw (Lies.many kind HRw.out he hnil) HP2.out HR5.out HM5.out)
  ·have HTo2:Hid (tot=(f,s1,noRng)):=HTo.out.symm.trans (HB.out h0)
   have hb1:((f:Int) != 0)=true:=by simp [h0]
   have hb2:((f:Int) == 0)=false:=by simp [h0]
   clear h0 HB HO_ HE
   obtain ⟨y1,y2,c0,c1,c2,c3,c4,c5,c6⟩:=H72.out
   have hw1:W1.heap.size≠w.heap.size:=by omega
   go_wp2
   simp only [Exit.jump]
   exact bodyPost_ret (v:=.tuple #[.agg #[.int .i64 0,.int .u64 0,.int .u64 0,.int .u64 0,.slice none 0 0,.slice none 0 0,.slice none 0 0],.int .i64 f]) (by simp [results,Tryz.results113,go_sem,c0,c1,c2,c3,c4,c5,c6,y1]) rfl (by rw [HTo2.out]; exact (rg_end (x:=zeroRV 0) hbw (Lies.zero _ _ 0) HP2.out HR2.out HM2.out).alloc hbw _)
 ·intro HK
  go_wp2
  go_step3
  rename_i hK
  exact hK _ _ (HK.out _ _ ⟨[],[],p,s,s.length+1,.slice none 0 0,_,_,_,_,_,_,_,_,_,_,_,_,_,_,_,_,_,_,_,_,_,_,_,_,_,HR.out.alloc _,HP.out,HM.out,H7.out,OwnRg.nil _ _,by have:=HP.out.len; have h2:=HP.out.le; simp; omega,Nat.lt_succ_self _,HTot.out,rfl⟩)
end Go.Proofs.YtgfbflnhjpbceaaGreatDoor.Range
namespace Go.Proofs.YtgfbflnhjpbceaaGreatDoor.Range
open Go.RowKit Num Ident Semver

def SevJO (w:World) (b:Nat) (A:Option Addr) (n c:Nat) (l:List UInt8) (kind deep:Int) (pf:List UInt8→Out) (fur:List UInt8→Option (List UInt8)) (tot:Out) (a':Act) (W:World):Prop :=
 ∃ (acc:List Rng) (xs:List RV) (q:Nat) (t:List UInt8) (k:Nat) (v:Value) (u11 u12 u13 u14 u15 u16 u17 u18 u19 u20 u21 u22 u23 u24 u25 u26 u27 u28 u29 u30 u31 u32 u33 u34 u35:Value),Rd W b A n c q∧Pl l q t∧Moved b w W∧RAt W w.heap.size (zeroRV 0)∧OwnRg W (w.heap.size+1) v acc xs∧acc.length+t.length≤l.length∧t.length<k∧sev pf fur kind k acc t=tot ∧
  a'={ tmps:=#[.int .i64 kind,.int .i64 deep,.func (.func 142) #[.pointer (some ⟨b,0,none⟩)] #[],.func (.func 143) #[.pointer (some ⟨b,0,none⟩)] #[],undef,undef,undef,undef,.pointer (some ⟨w.heap.size,0,none⟩),.int .i64 0,v,u11,u12,u13,u14,u15,u16,u17,u18,u19,u20,u21,u22,u23,u24,u25,u26,u27,u28,u29,u30,u31,u32,u33,u34,u35],defers:=[] }
theorem severalO (b:Nat) (A:Option Addr) (n c p:Nat) (l s:List UInt8) (kind deep:Int) (pf:List UInt8→Out) (fur:List UInt8→Option (List UInt8)) (w:World) (hR:Rd w b A n c p) (hr:Row w A n l) (hn:n≤30000000) (hs:Pl l p s) (ht:OpsTab w) (hpr:Prog pf) (hfa:Falls fur) (hpc:∀ s,Piece (pf s).2.1 s)
  (hp:∀ W q t,Rd W b A n c q→Row W A n l→OpsTab W→Pl l q t→Calls Tryz.prog 142 #[.pointer (some ⟨b,0,none⟩),.int .i64 deep] W (RgPost b A n c l W (pf t)))
  (hf:∀ W q t,Rd W b A n c q→Row W A n l→Pl l q t→Calls Tryz.prog 143 #[.pointer (some ⟨b,0,none⟩)] W (FurPost b A n c q l W (fur t))) :
  Calls Tryz.prog 113 #[.int .i64 kind,.int .i64 deep,.func (.func 142) #[.pointer (some ⟨b,0,none⟩)] #[],.func (.func 143) #[.pointer (some ⟨b,0,none⟩)] #[]] w (RgPost b A n c l w (sev pf fur kind (s.length+1) [] s)):=by
 have hbw:=hR.lt
 have HP:=Lib.hid hs
 have HL:=Lib.hid hr.1
 have HR:=Lib.hid hR
 have HRow:=Lib.hid hr
 have HT:=Lib.hid ht
 have HPR:=Lib.hid hpr
 have HFA:=Lib.hid hfa
 have HPC:=Lib.hid hpc
 have HPF:=Lib.hid hp
 have HFU:=Lib.hid hf
 have H7:Hid (RAt (w.alloc ()) w.heap.size (zeroRV 0)):=RAt.new w 28 (zeroRV 0)
 have HM:Hid (Moved b w (w.alloc ())):=(Moved.refl b w).alloc hbw _
 have hne:w.heap.size≠b:=by omega
 clear hR hr hs ht hpr hfa hpc hp hf
 obtain ⟨tot,htot⟩:∃ tot,sev pf fur kind (s.length+1) [] s=tot:=⟨_,rfl⟩
 rw [htot]
 have HTot:=Lib.hid htot
 clear htot
 go_enter Tryz.func113,Tryz.ntmps113
 go_wp2
 refine wp_scope_back 0 (SevJO w b A n c l kind deep pf fur tot) (PsM b n) rfl ?_ ?_
 ·rintro a' W ⟨acc,xs,q,t,k,v,u11,u12,u13,u14,u15,u16,u17,u18,u19,u20,u21,u22,u23,u24,u25,u26,u27,u28,u29,u30,u31,u32,u33,u34,u35,hR1,hP1,hM1,h71,hO1,hlen,hk,htot,rfl⟩
  have HK1:=Lib.hid (HR.out.keep hM1)
  have HRow1:=Lib.hid (row_keep HRow.out HK1.out)
  have HT1:=Lib.hid (HT.out.keep HK1.out)
  have HR1:=Lib.hid hR1
  have HP1:=Lib.hid hP1
  have HM1:=Lib.hid hM1
  have H71:=Lib.hid h71
  have HO1:=Lib.hid hO1
  have HTo:=Lib.hid htot
  have hz1:w.heap.size<W.heap.size:=h71.1
  obtain ⟨k,rfl⟩:∃ j,k=j+1:=⟨k - 1,by omega⟩
  have HRq:=Lib.hid HR1.out
  clear hR1 hP1 hM1 h71 hO1 htot
  go_wp2_with fail
  refine (HPF.out W q t HR1.out HRow1.out HT1.out HP1.out).mono ?_
  rintro e W1 ⟨x,q1,rfl,hx,hP2,hR2,hM2⟩
  unfold RV.agg
  obtain ⟨⟨f,s1,r⟩,hpt⟩:∃ y,pf t=y:=⟨_,rfl⟩
  have HB:=Lib.hid (sev_bad (pf:=pf) (ff:=fur) (kind:=kind) (n:=k) (acc:=acc) (s:=t))
  have HO_:=Lib.hid (fun s'=>sev_on (pf:=pf) (ff:=fur) (kind:=kind) (n:=k) (acc:=acc) (s:=t) (s':=s'))
  have HE:=Lib.hid (sev_end (pf:=pf) (ff:=fur) (kind:=kind) (n:=k) (acc:=acc) (s:=t))
  have HG:=Lib.hid (HPR.out t)
  have HPc:=Lib.hid (HPC.out t)
  rw [hpt] at hx hP2 HB HO_ HE HG HPc ⊢
  simp only at hx hP2 HB HO_ HE HG HPc ⊢
  clear hpt
  have HX1:Hid (Lies W1 (From (w.heap.size+1)) r x):=hx.from_ hz1
  have HXW:Hid (Lies W1 (From W.heap.size) r x):=hx
  have HP2:=Lib.hid hP2
  have HR2:=Lib.hid hR2
  have HM2:=Lib.hid (HM1.out.trans hM2)
  have H72:=Lib.hid (H71.out.moved hM2 hne)
  have HO2:=Lib.hid (HO1.out.moved hM2 (by omega))
  have HOwn:=Lib.hid (fun g h=>(HO1.out.own.lt g h).2)
  have hz2:w.heap.size<W1.heap.size:=H72.out.1
  have hzW:W.heap.size≤W1.heap.size:=hM2.size
  have HRow2:=Lib.hid (row_keep HRow.out (HR.out.keep HM2.out))
  clear hx hP2 hR2 hM2 HR1 HM1 H71 HO1 HRow1 HT1
  by_cases h0:f=0
  ·subst h0
   have hr3:Hid (Rd (W1.alloc x) b A n c q1):=HR2.out.alloc _
   have hm3:Hid (Moved b w (W1.alloc x)):=HM2.out.alloc hbw _
   have h73:Hid (RAt (W1.alloc x) w.heap.size (zeroRV 0)):=H72.out.kept ((Below.refl W1.heap.size W1).alloc (Nat.le_refl _) _) hz2
   have ho3:Hid (OwnRg (W1.alloc x) (w.heap.size+1) v acc xs):=HO2.out.kept ((Below.refl _ _).alloc (Nat.le_refl _) _)
   have hx3:Hid (Lies (W1.alloc x) (From W.heap.size) r x):=HXW.out.keep (KeepS.alloc _ _)
   have ha3:Hid (RAt (W1.alloc x) W1.heap.size x):=RAt.new W1 28 x
   have hw3:Hid (Row (W1.alloc x) A n l):=HRow2.out.kept ((Below.refl _ _).alloc (Nat.le_refl _) _)
   have hacc:(acc.length+1) * 104≤140737488355328:=by rw [HL.out] at hlen; omega
   clear HR2 HM2 H72 HO2 HRow2 HX1 HXW
   obtain ⟨g1,g2,d0,d1,d2,d3,d4,d5,d6⟩:=ha3.out
   go_wp2_with (first
    | (at_builtin
       have ho4:Hid (OwnRg ((W1.alloc x).alloc x) (w.heap.size+1) v acc xs):=ho3.out.kept ((Below.refl _ _).alloc (Nat.le_refl _) _)
       refine wpList_append_rg _ rfl _ _ rfl (w.heap.size+1) v acc.length xs rfl ho4.out.own ⟨W1.heap.size+1,0,none⟩ x rfl (fun j u hu=>by have:=news_new (W1.alloc x) x.vals 28 j u hu; rw [size_alloc] at this; exact this) hacc (by simp; omega) ?_
       intro v' W4 hown hgr hat
       have hR4:Hid (Rd W4 b A n c q1):=(hr3.out.alloc _).grown hgr (by simp; intro e; have:=(ho4.out.own.lt b e.symm).1; omega)
       have hM4:Hid (Moved b w W4):=(hm3.out.alloc hbw _).grown hgr hbw (fun g e=>Nat.le_of_succ_le (ho4.out.own.lt g e).1)
       have h74:Hid (RAt W4 w.heap.size (zeroRV 0)):=(h73.out.kept ((Below.refl _ _).alloc (Nat.le_refl _) _) (by simp; omega)).grown hgr (by intro e; have:=(ho4.out.own.lt _ e.symm).1; omega)
       have hA4:Hid (RAt W4 W1.heap.size x):=(ha3.out.kept ((Below.refl _ _).alloc (Nat.le_refl _) _) (by simp)).grown hgr (by intro e; have:=HOwn.out _ e.symm; omega)
       have hO4:Hid (OwnRg W4 (w.heap.size+1) v' (acc ++ [r]) (xs ++ [x])):=ho4.out.more hown hgr hat (hx3.out.keep (KeepS.alloc _ _)) hz1 HOwn.out
       have hW4:Hid (Row W4 A n l):=row_keep HRow.out (HR.out.keep hM4.out)
       have hX4:Hid (Lies W4 (From (w.heap.size+1)) r x):=by
        have h1:Lies ((W1.alloc x).alloc x) (fun g=>From (w.heap.size+1) g∧some g≠v.ownBlock) r x:=(hx3.out.keep (KeepS.alloc _ _)).mono fun g hS _=>⟨Nat.le_trans hz1 hS,fun e=>by have:=HOwn.out _ e.symm; unfold From at hS; omega⟩
        exact (h1.keep (KeepS.grown hgr fun g hS=>hS.2)).mono fun g hS _=>hS.1
       clear hown hgr hat)
    | fail)
   clear g1 g2 d0 d1 d2 d3 d4 d5 d6 hr3 hm3 h73 ho3 hx3 ha3 hw3
   refine (HFU.out W4 q1 s1 hR4.out hW4.out HP2.out).mono ?_
   rintro e W5 ⟨hM5,hfp⟩
   have HM5:=Lib.hid (hM4.out.trans hM5)
   have H75:=Lib.hid (h74.out.moved hM5 hne)
   have HA5:=Lib.hid (hA4.out.moved hM5 (by omega))
   have HO5:=Lib.hid (hO4.out.moved hM5 (by omega))
   have HX5:Hid (Lies W5 (From (w.heap.size+1)) r x):=hX4.out.keep (KeepS.moved hM5 (fun h=>by unfold From at h; omega))
   clear hM5 hR4 hM4 h74 hA4 hO4 hW4 hX4
   have hprog:=HG.out (by first | rfl | trivial)
   cases hfu:fur s1 with
   | some s2 =>
    rw [hfu] at hfp
    obtain ⟨rfl,q2,hp5,hr5⟩:=hfp
    have HTo2:Hid (sev pf fur kind k (acc ++ [r]) s2=tot):=by
     have:=HO_.out s2 (by first | rfl | trivial) hfu
     exact this.symm.trans HTo.out
    have hl2:=HFA.out s1 s2 hfu
    have HR5:=Lib.hid hr5
    have HP5:=Lib.hid hp5
    clear hr5 hp5 hfu
    go_wp2
    go_step3
    refine ⟨rfl,⟨acc ++ [r],xs ++ [x],q2,s2,k,v',_,_,_,_,_,_,_,_,_,_,_,_,_,_,_,_,_,_,_,_,_,_,_,_,_,HR5.out,HP5.out,HM5.out,H75.out,HO5.out,by rw [List.length_append,List.length_singleton]; omega,by omega,HTo2.out,rfl⟩,?_⟩
    have e1:=HP1.out.len
    have e2:=HP5.out.len
    have e3:=HP1.out.le
    have e4:=HP5.out.le
    exact psM_less HR5.out HRq.out (by rw [HL.out] at e1 e2 e3 e4; omega)
   | none =>
    rw [hfu] at hfp
    obtain ⟨rfl,hr5⟩:=hfp
    have HTo2:Hid (tot=(0,s1,whole kind acc r)):=by
     have:=HE.out (by first | rfl | trivial) hfu
     exact HTo.out.symm.trans this
    have HR5:=Lib.hid hr5
    clear hr5 hfu
    obtain ⟨L,e,rfl,he,hnil,hrow⟩:=HO5.out.row
    have HRw:=Lib.hid hrow
    clear hrow HO5
    obtain ⟨y1,y2,c0,c1,c2,c3,c4,c5,c6⟩:=H75.out
    obtain ⟨g1,g2,d0,d1,d2,d3,d4,d5,d6⟩:=HA5.out
    have hw1:W1.heap.size≠w.heap.size:=by omega
    by_cases hac:acc=[]
    ·subst hac
     have HTo3:Hid (tot=(0,s1,r)):=HTo2.out
     go_wp2
     simp only [Exit.jump]
     exact bodyPost_ret (v:=.tuple #[.agg #[x.kind,x.v.a,x.v.b,x.v.c,.slice x.A x.v.pre.length x.c,.slice x.B x.v.build.length x.d,.slice x.L x.n x.e],.int .i64 0]) (by simp [results,Tryz.results113,go_sem,c0,c1,c2,c3,c4,c5,c6]) rfl (by rw [HTo3.out]; exact rg_end (x:=x) hbw HX5.out HP2.out HR5.out HM5.out)
    ·have hl2:(acc ++ [r]).length≠1:=by
      cases acc with
      | nil=>exact absurd rfl hac
      | cons=>simp
     have HTo3:Hid (tot=(0,s1,.mk kind noVer (acc ++ [r]))):=by have:=HTo2.out; unfold whole at this; rw [if_neg hac] at this; exact this
     generalize acc ++ [r]=al at hl2 he HRw HTo3 ⊢
     have hb1:((al.length:Int) == 1)=false:=by simp; omega
     go_wp2
     simp only [Exit.jump]
     exact bodyPost_ret (v:=.tuple #[.agg #[.int .i64 kind,.int .u64 0,.int .u64 0,.int .u64 0,.slice none 0 0,.slice none 0 0,.slice L al.length e],.int .i64 0]) (by simp [results,Tryz.results113,go_sem,c0,c1,c2,c3,c4,c5,c6]) rfl (by rw [HTo3.out]; exact rg_end (x:=⟨kind,noVer,none,0,none,0,L,al.length,e⟩) hbw (Lies.many kind HRw.out he hnil) HP2.out HR5.out HM5.out)
  ·have HTo2:Hid (tot=(f,s1,noRng)):=HTo.out.symm.trans (HB.out h0)
   have hb1:((f:Int) != 0)=true:=by simp [h0]
   have hb2:((f:Int) == 0)=false:=by simp [h0]
   clear h0 HB HO_ HE
   obtain ⟨y1,y2,c0,c1,c2,c3,c4,c5,c6⟩:=H72.out
   have hw1:W1.heap.size≠w.heap.size:=by omega
   go_wp2
   simp only [Exit.jump]
   exact bodyPost_ret (v:=.tuple #[.agg #[.int .i64 0,.int .u64 0,.int .u64 0,.int .u64 0,.slice none 0 0,.slice none 0 0,.slice none 0 0],.int .i64 f]) (by simp [results,Tryz.results113,go_sem,c0,c1,c2,c3,c4,c5,c6,y1]) rfl (by rw [HTo2.out]; exact (rg_end (x:=zeroRV 0) hbw (Lies.zero _ _ 0) HP2.out HR2.out HM2.out).alloc hbw _)
 ·intro HK
  go_wp2
  go_step3
  rename_i hK
  exact hK _ _ (HK.out _ _ ⟨[],[],p,s,s.length+1,.slice none 0 0,_,_,_,_,_,_,_,_,_,_,_,_,_,_,_,_,_,_,_,_,_,_,_,_,_,HR.out.alloc _,HP.out,HM.out,H7.out,OwnRg.nil _ _,by have:=HP.out.len; have h2:=HP.out.le; simp; omega,Nat.lt_succ_self _,HTot.out,rfl⟩)
end Go.Proofs.YtgfbflnhjpbceaaGreatDoor.Range
namespace Go.Proofs.YtgfbflnhjpbceaaGreatDoor.Span
open Go.RowKit Num Ident Semver Prec

theorem stand_zero {a b:Cut} (h:stand a b=0):a.kind=b.kind∧(ofVer a=true→ofVer b=true→cmpV a.v b.v=0):=by
 unfold stand at h
 by_cases h1:ofVer a=true∧ofVer b=true∧cmpV a.v b.v≠0
 ·rw [if_pos h1] at h; exact absurd h h1.2.2
 ·rw [if_neg h1] at h
  refine ⟨?_,fun h2 h3=>Classical.byContradiction fun h4=>h1 ⟨h2,h3,h4⟩⟩
  rcases ordI_cases a.kind b.kind with ⟨x,y⟩ | ⟨x,y⟩ | ⟨x,y⟩ <;> omega
def Rights (l:List Sp):Prop:=∀ s ∈ l,right s.lo=true∧right s.hi=true
theorem Norm.rights {l:List Sp} (h:Norm l):Rights l:=fun s hs=>⟨((cnt_iff s).1 (h.cnt s hs)).1,((cnt_iff s).1 (h.cnt s hs)).2.1⟩
theorem right_behind {v:Ver} (h:right (aheadOf v)=true):right (behindOf v)=true:=by
 rw [right_ver (.inl rfl)] at h
 rw [right_ver (.inr rfl)]; exact h
theorem Like.zero {l r:List RSp} {n:Nat} (h:Like (l.map RSp.sp) (r.map RSp.sp)) (hl:Rights (l.map RSp.sp)) (hr:Rights (r.map RSp.sp)) (hn:n≤l.length):Zero l r n:=by
 have hlen:l.length=r.length:=by have:=h.length; simpa using this
 intro i hi
 have h1:=h.at i (by rw [List.length_map]; omega)
 have e1:(l.map RSp.sp).getD i default=(l.getD i default).sp:=by simp [List.getD,List.getElem?_eq_getElem (show i<l.length by omega)]
 have e2:(r.map RSp.sp).getD i default=(r.getD i default).sp:=by simp [List.getD,List.getElem?_eq_getElem (show i<r.length by omega)]
 rw [e1,e2] at h1
 have k1:=hl (l.getD i default).sp (List.mem_map_of_mem (getS_mem (by omega)))
 have k2:=hr (r.getD i default).sp (List.mem_map_of_mem (getS_mem (by omega)))
 exact ⟨(cmpC_right k1.1 k2.1).trans h1.1,(cmpC_right k1.2 k2.2).trans h1.2⟩
theorem inR_nil (c:Cut):¬ inR [] c:=fun ⟨s,hs,_⟩=>by cases hs
theorem inS_nil (c:Cut):¬ inS [] c:=fun ⟨s,hs,_⟩=>by cases hs
theorem inS_one (s:Sp) (c:Cut):inS [s] c↔inOne s c:=⟨fun ⟨x,hx,h⟩=>by rw [List.mem_singleton] at hx; subst hx; exact h,fun h=>⟨s,List.mem_singleton.2 rfl,h⟩⟩
theorem low_ahead (v:Ver):stand low (aheadOf v)<0:=by
 rw [stand_kind (by rintro ⟨h,_⟩; exact absurd h (by decide))]; exact (show ordI 0 1<0 by decide)
theorem behind_high (v:Ver):stand (behindOf v) high<0:=by
 rw [stand_kind (by rintro ⟨_,h⟩; exact absurd h (by decide))]; exact (show ordI 2 3<0 by decide)
theorem Like.self {l:List Sp}:Like l l:=by
 induction l with
 | nil=>exact Like.nil
 | cons s l ih=>exact Like.cons (stand_self _) (stand_self _) ih
end Go.Proofs.YtgfbflnhjpbceaaGreatDoor.Span
namespace Go.Proofs.YtgfbflnhjpbceaaGreatDoor.Range
open Go.RowKit Num Ident Semver
theorem arr_lit (t:Array Value) (n:Nat) (h:t.size=n):t=((List.range n).map fun i=>t.getD i undef).toArray:=by
 apply Array.ext
 ·simp [h]
 ·intro i h1 h2
  simp [Array.getD,h1]
end Go.Proofs.YtgfbflnhjpbceaaGreatDoor.Range
