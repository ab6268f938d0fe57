/-
  What the theorem of the last text needs of these: RgCame, NmMath, MoSteps, NmPlain. Conditions: as each theorem states.
-/
import Derived.Test.YtnpjklaaokiikaaGreatDoorPlA1
import Derived.Test.YtnpjklaaokiikaaGreatDoorPlA2
import Derived.Test.YtnpjklaaokiikaaGreatDoorPlA8
import Derived.Test.YtnpjklaaokiikaaGreatDoorPlA9
import Derived.Test.YtnpjklaaokiikaaGreatDoorPlA11
import Derived.Test.YtnpjklaaokiikaaGreatDoorPlA16
set_option maxRecDepth 100000
set_option maxHeartbeats 25600000
namespace Go.Proofs.YtnpjklaaokiikaaGreatDoor.Came
open Go.ChangeShapes Go.WideShapes Go.RowKit Go.Deep
open Range (Rng noRng RV LenOk LtB InS)
theorem ver_full {H:Type} {enc:TypeId × Value→H} {W:World} {fuel:Nat} {l:List Value} {y:DataW H × List MemPlace} (hf:DataW.trod enc Tryz.prog W 0 (fun _=>true) true fuel 34 l=some y) :
  ∃ (v:Semver.Ver) (A:Option Addr) (c:Nat) (B:Option Addr) (d:Nat),l=[.int .u64 v.a,.int .u64 v.b,.int .u64 v.c,.slice A v.pre.length c,.slice B v.build.length d]∧Ident.SRow W A v.pre.length v.pre∧Ident.SRow W B v.build.length v.build∧Range.FitV v∧v.pre.length≤c∧v.build.length≤d∧(Sized 34 y.1→v.pre.length≤8796093022208∧v.build.length≤8796093022208):=by
 have hC:Tryz.prog.cellsOf 34=5:=by kernel_rfl
 have cu:Tryz.prog.cellsOf 31=1:=by kernel_rfl
 have ct:Tryz.prog.cellsOf 32=1:=by kernel_rfl
 obtain ⟨xs,n,_,hy,hsz,hlen,hg⟩:=DataW.trod_struct Tryz.underlying34 hf
 have hl:xs.length=5:=hlen
 rw [hC] at hsz
 match l,hsz with
 | [z0,z1,z2,z3,z4],_ =>
  match xs,hl with
  | [y0,y1,y2,y3,y4],_ =>
   have f0:DataW.trod enc Tryz.prog W 0 (fun _=>true) true n 31 (([z0,z1,z2,z3,z4].drop 0).take (Tryz.prog.cellsOf 31))=some y0:=hg 0 _ rfl
   rw [cu] at f0
   have g0:DataW.trod enc Tryz.prog W 0 (fun _=>true) true n 31 [z0]=some y0:=f0
   have f1:DataW.trod enc Tryz.prog W 0 (fun _=>true) true n 31 (([z0,z1,z2,z3,z4].drop 1).take (Tryz.prog.cellsOf 31))=some y1:=hg 1 _ rfl
   rw [cu] at f1
   have g1:DataW.trod enc Tryz.prog W 0 (fun _=>true) true n 31 [z1]=some y1:=f1
   have f2:DataW.trod enc Tryz.prog W 0 (fun _=>true) true n 31 (([z0,z1,z2,z3,z4].drop 2).take (Tryz.prog.cellsOf 31))=some y2:=hg 2 _ rfl
   rw [cu] at f2
   have g2:DataW.trod enc Tryz.prog W 0 (fun _=>true) true n 31 [z2]=some y2:=f2
   have f3:DataW.trod enc Tryz.prog W 0 (fun _=>true) true n 32 (([z0,z1,z2,z3,z4].drop 3).take (Tryz.prog.cellsOf 32))=some y3:=hg 3 _ rfl
   rw [ct] at f3
   have g3:DataW.trod enc Tryz.prog W 0 (fun _=>true) true n 32 [z3]=some y3:=f3
   have f4:DataW.trod enc Tryz.prog W 0 (fun _=>true) true n 32 (([z0,z1,z2,z3,z4].drop 4).take (Tryz.prog.cellsOf 32))=some y4:=hg 4 _ rfl
   rw [ct] at f4
   have g4:DataW.trod enc Tryz.prog W 0 (fun _=>true) true n 32 [z4]=some y4:=f4
   clear f0 f1 f2 f3 f4 hg
   obtain ⟨a,rfl,wa⟩:=field_read g0
   obtain ⟨b,rfl,wb⟩:=field_read g1
   obtain ⟨c,rfl,wc⟩:=field_read g2
   obtain ⟨A,m1,c1,p,e1,r1,q1,k1,u1,s1⟩:=texts_at g3
   obtain ⟨B,m2,c2,t,e2,r2,q2,k2,_,s2⟩:=texts_at g4
   simp at e1 e2
   subst e1
   subst e2
   obtain rfl:=r1.1
   obtain rfl:=r2.1
   refine ⟨⟨a,b,c,p,t⟩,A,c1,B,c2,rfl,r1,r2,⟨wa,wb,wc,Nat.le_trans q1 k1,Nat.le_trans q2 k2,s1,s2⟩,q1,q2,fun hs=>?_⟩
   rw [hy] at hs
   exact ⟨texts_len g3 (hs.part Tryz.underlying34 (i:=3) rfl rfl),texts_len g4 (hs.part Tryz.underlying34 (i:=4) rfl rfl)⟩
theorem ins_of {W:World} {A:Option Addr} {n:Nat} {l:List (List UInt8)} (h:Ident.SRow W A n l):InS (LtB W.heap.size) A n:=by
 intro h0
 obtain ⟨b,o,e,hb,_⟩:=h.2 h0
 exact ⟨b,o,e,hb⟩
theorem rng_at {H:Type} {enc:TypeId × Value→H} {W:World}:∀ (N fuel:Nat) (l:List Value) (y:DataW H × List MemPlace),fuel≤N→DataW.trod enc Tryz.prog W 0 (fun _=>true) true fuel 55 l=some y →
  ∃ (r:Rng) (x:RV),l=x.vals∧Range.Lies W (LtB W.heap.size) r x∧LenOk r∧(Sized 55 y.1→Nrm.Slim r)
 | 0,fuel,l,y,hN,hf=>by
  obtain ⟨xs,n,e,_⟩:=DataW.trod_struct Tryz.underlying55 hf
  omega
 | N+1,fuel,l,y,hN,hf=>by
  have hC:Tryz.prog.cellsOf 55=7:=by kernel_rfl
  have ci:Tryz.prog.cellsOf 3=1:=by kernel_rfl
  have cv:Tryz.prog.cellsOf 34=5:=by kernel_rfl
  have cl:Tryz.prog.cellsOf 53=1:=by kernel_rfl
  obtain ⟨xs,n,hfn,hy0,hsz,hlen,hg⟩:=DataW.trod_struct Tryz.underlying55 hf
  have hl:xs.length=3:=hlen
  rw [hC] at hsz
  match l,hsz with
  | [z0,z1,z2,z3,z4,z5,z6],_ =>
   match xs,hl with
   | [y0,y1,y2],_ =>
    have f0:DataW.trod enc Tryz.prog W 0 (fun _=>true) true n 3 (([z0,z1,z2,z3,z4,z5,z6].drop 0).take (Tryz.prog.cellsOf 3))=some y0:=hg 0 _ rfl
    rw [ci] at f0
    have g0:DataW.trod enc Tryz.prog W 0 (fun _=>true) true n 3 [z0]=some y0:=f0
    have f1:DataW.trod enc Tryz.prog W 0 (fun _=>true) true n 34 (([z0,z1,z2,z3,z4,z5,z6].drop 1).take (Tryz.prog.cellsOf 34))=some y1:=hg 1 _ rfl
    rw [cv] at f1
    have g1:DataW.trod enc Tryz.prog W 0 (fun _=>true) true n 34 [z1,z2,z3,z4,z5]=some y1:=f1
    have f2:DataW.trod enc Tryz.prog W 0 (fun _=>true) true n 53 (([z0,z1,z2,z3,z4,z5,z6].drop 6).take (Tryz.prog.cellsOf 53))=some y2:=hg 2 _ rfl
    rw [cl] at f2
    have g2:DataW.trod enc Tryz.prog W 0 (fun _=>true) true n 53 [z6]=some y2:=f2
    clear f0 f1 f2 hg
    obtain ⟨k,rfl⟩:=kind_read g0
    obtain ⟨v,A,c,B,d,e,h1,h2,h3,h4,h5,hvs⟩:=ver_full g1
    have hpv:Sized 55 y.1→v.pre.length≤8796093022208∧v.build.length≤8796093022208:=fun hs=>by
     rw [hy0] at hs
     exact hvs (hs.part Tryz.underlying55 (i:=1) rfl rfl)
    have hps:Sized 55 y.1→Sized 53 y2.1:=fun hs=>by
     rw [hy0] at hs
     exact hs.part Tryz.underlying55 (i:=2) rfl rfl
    simp only [List.cons.injEq,and_true] at e
    obtain ⟨rfl,rfl,rfl,rfl,rfl⟩:=e
    rcases DataW.trod_slice Tryz.underlying53 g2 with ⟨hz,_⟩ | ⟨a,len,cap,elems,rest,n2,hn2,hz,hy2,_,hlc,hcm,hel,hi,_,_⟩
    ·simp only [List.cons.injEq,and_true] at hz
     subst hz
     exact ⟨.mk k v [],⟨k,v,A,c,B,d,none,0,0⟩,rfl,Range.Lies.version k v A c B d h1 h2 (ins_of h1) (ins_of h2) h4 h5 h3,.mk k v [] (by simp) (fun y hy=>by cases hy),fun hs=>.mk k v [] (hpv hs).1 (hpv hs).2 (fun y hy=>by cases hy)⟩
    ·simp only [List.cons.injEq,and_true] at hz
     subst hz
     rw [hC] at hi
     obtain ⟨ps,hpl,hp⟩:=list_of (α:=Rng × RV) (P:=fun i (p:Rng × RV)=>(Range.Lies W (LtB W.heap.size) p.1 p.2∧LenOk p.1∧(Sized 55 y.1→Nrm.Slim p.1))∧∀ j u,p.2.vals[j]?=some u→W.cell? ((a.add (i * 7)).add j)=some u) len fun i hi'=>by
      have h0:=hi i hi'
      rw [List.getElem?_eq_getElem (show i<elems.length by omega),Option.bind_eq_some_iff] at h0
      obtain ⟨cs,hc,ht⟩:=h0
      obtain ⟨_,hcl,hat⟩:=World.cells?_some hc
      obtain ⟨r,x,e,hr,ho,hsl⟩:=rng_at N n2 cs _ (by omega) ht
      refine ⟨(r,x),⟨hr,ho,fun hs=>hsl (by
       have h2:=hps hs
       rw [hy2] at h2
       exact h2.elem Tryz.underlying53 (i:=i) (List.getElem?_eq_getElem (show i<elems.length by omega)))⟩,fun j u hu=>?_⟩
      have hj:j<7:=(List.getElem?_eq_some_iff.1 hu).1
      rw [hat j hj,e]; exact hu
     have hgd:∀ j,j<len→(ps.map Prod.fst).getD j noRng=(ps.getD j default).1:=fun j hj=>by
      rw [List.getD_eq_getElem?_getD,List.getD_eq_getElem?_getD,List.getElem?_map,List.getElem?_eq_getElem (show j<ps.length by omega)]; rfl
     refine ⟨.mk k v (ps.map Prod.fst),⟨k,v,A,c,B,d,some a,len,cap⟩,rfl,Range.Lies.mk ⟨k,v,A,c,B,d,some a,len,cap⟩ (ps.map Prod.fst) (fun j=>(ps.getD j default).2) (by simp [hpl]) hlc h1 h2 (ins_of h1) (ins_of h2) h4 h5 h3 (fun e=>by cases e) (fun h0=>?_) (fun j hj=>?_),.mk k v _ (by rw [List.length_map,hpl]; unfold maxLen at hcm; omega) (fun q hq=>?_),fun hs=>.mk k v _ (hpv hs).1 (hpv hs).2 (fun q hq=>?_)⟩
     ·have h0:0<len:=h0
      obtain ⟨b,o,spot⟩:=a
      have h0c:=(hp 0 h0).2 0 _ rfl
      have hspot:spot=none:=by simpa [Addr.add] using World.cell?_spot h0c
      subst hspot
      refine ⟨b,o,rfl,?_,fun j hj i u hu=>?_⟩
      ·have:=World.block_lt_of_cell? W _ h0c
       rwa [Num.add_none,Num.add_none] at this
      ·have e:=(hp j hj).2 i u hu
       rwa [Num.add_none,Num.add_none] at e
     ·rw [hgd j hj]; exact (hp j hj).1.1
     ·obtain ⟨p,hp1,rfl⟩:=List.mem_map.1 hq
      obtain ⟨j,hj,rfl⟩:=List.getElem_of_mem hp1
      have:=(hp j (by omega)).1.2.1
      simpa [List.getD,List.getElem?_eq_getElem hj] using this
     ·obtain ⟨p,hp1,rfl⟩:=List.mem_map.1 hq
      obtain ⟨j,hj,rfl⟩:=List.getElem_of_mem hp1
      have:=(hp j (by omega)).1.2.2 hs
      simpa [List.getD,List.getElem?_eq_getElem hj] using this
end Go.Proofs.YtnpjklaaokiikaaGreatDoor.Came
namespace Go.Proofs.YtnpjklaaokiikaaGreatDoor.Nrm
open Go.RowKit Num Ident Semver Prec Span
open Range (Rng noRng goodR goodL fits)


def endCut (o:Option Ver):Cut:=match o with
 | none=>high
 | some e=>⟨1,e⟩
def loOf (k:Int) (v:Ver):Cut:=if k=1∨k=5∨k=7∨k=8 then aheadOf v else if k=2 then behindOf v else low
def hiOf (k:Int) (v:Ver):Cut:=if k=3∨k=5 then behindOf v else if k=4 then aheadOf v else if k=7 then endCut (caretV v) else if k=8 then endCut (tildeV v) else high
def inK (k:Int) (v:Ver) (c:Cut):Prop:=if k=6 then ¬ inOne ⟨aheadOf v,behindOf v⟩ c else inOne ⟨loOf k v,hiOf k v⟩ c
mutual
def inC:Rng→Cut→Prop
 | .mk k v l,c=>inOne ⟨low,high⟩ c∧(if k=9 then allC l c else if k=10 then anyC l c else if k=11 then ¬ headC l c else inK k v c)
def allC:List Rng→Cut→Prop
 | [],_=>True
 | r :: rs,c=>inC r c∧allC rs c
def anyC:List Rng→Cut→Prop
 | [],_=>False
 | r :: rs,c=>inC r c∨anyC rs c
def headC:List Rng→Cut→Prop
 | [],_=>False
 | r :: _,c=>inC r c
end
theorem inC_eq (k:Int) (v:Ver) (l:List Rng) (c:Cut):inC (.mk k v l) c=(inOne ⟨low,high⟩ c∧(if k=9 then allC l c else if k=10 then anyC l c else if k=11 then ¬ headC l c else inK k v c)):=by rw [inC]
theorem allC_iff {c:Cut}:∀ {l:List Rng},allC l c↔∀ x ∈ l,inC x c
 | []=>by rw [allC]; simp
 | r :: rs=>by rw [allC,allC_iff]; simp
theorem anyC_iff {c:Cut}:∀ {l:List Rng},anyC l c↔∃ x ∈ l,inC x c
 | []=>by rw [anyC]; simp
 | r :: rs=>by rw [anyC,anyC_iff]; simp
theorem headC_one (r:Rng) (c:Cut):headC [r] c↔inC r c:=by rw [headC]
theorem inC_all {r:Rng} {c:Cut} (h:inC r c):inOne ⟨low,high⟩ c:=by
 obtain ⟨k,v,l⟩:=r
 rw [inC_eq] at h; exact h.1
theorem inC_and (v:Ver) (l:List Rng) (c:Cut):inC (.mk 9 v l) c↔inOne ⟨low,high⟩ c∧∀ x ∈ l,inC x c:=by rw [inC_eq,if_pos rfl,allC_iff]
theorem inC_or (v:Ver) (l:List Rng) (c:Cut):inC (.mk 10 v l) c↔∃ x ∈ l,inC x c:=by
 rw [inC_eq,if_neg (by omega),if_pos rfl,anyC_iff]
 exact ⟨fun h=>h.2,fun ⟨x,hx,h⟩=>⟨inC_all h,x,hx,h⟩⟩
theorem inC_not (v:Ver) (r:Rng) (c:Cut):inC (.mk 11 v [r]) c↔inOne ⟨low,high⟩ c∧¬ inC r c:=by
 rw [inC_eq,if_neg (by omega),if_neg (by omega),if_pos rfl,headC_one]
theorem inC_ver {k:Int} (h1:0≤k) (h2:k≤8) (v:Ver) (l:List Rng) (c:Cut):inC (.mk k v l) c↔inOne ⟨low,high⟩ c∧inK k v c:=by
 rw [inC_eq,if_neg (by omega),if_neg (by omega),if_neg (by omega)]
theorem good_bare {v:Ver} (h:goodV v=true):goodV (bare v)=true:=by
 unfold goodV bare at *
 rw [Bool.and_eq_true,Bool.and_eq_true] at h ⊢
 exact ⟨h.1,h.2.1,rfl⟩
theorem ahead_right {v:Ver} (h:goodV v=true):Span.right (aheadOf v)=true:=by
 rw [right_ver (.inl rfl),Bool.and_eq_true,decide_eq_true_eq]
 exact ⟨good_bare h,rfl⟩
theorem end_good {v e:Ver} {i:Nat} (hv:goodV v=true) (h:endV v.a v.b v.c i=some e):goodV e=true∧e.build=[]:=by
 unfold goodV at hv
 rw [Bool.and_eq_true] at hv
 have hh:=of_decide_eq_true hv.1
 have key:∀ x y z,x≤maxField→y≤maxField→z≤maxField→goodV (firstV x y z)=true∧(firstV x y z).build=[]:=fun x y z h1 h2 h3=>by
  refine ⟨?_,rfl⟩
  unfold goodV
  rw [Bool.and_eq_true]
  exact ⟨decide_eq_true ⟨h1,h2,h3⟩,show (goodFrom true [[48]] 0 && goodFrom false [] 0)=true by decide⟩
 have hm:maxField=9223372036854775807:=rfl
 unfold endV at h
 split at h
 ·split at h
  ·cases h
  ·injection h with h; subst h; exact key _ _ _ (by omega) (Nat.zero_le _) (Nat.zero_le _)
 ·split at h
  ·split at h
   ·cases h
   ·injection h with h; subst h; exact key _ _ _ hh.1 (by omega) (Nat.zero_le _)
  ·split at h
   ·cases h
   ·injection h with h; subst h; exact key _ _ _ hh.1 hh.2.1 (by omega)
theorem endCut_right {v:Ver} {i:Nat} (hv:goodV v=true):Span.right (endCut (endV v.a v.b v.c i))=true∧stand (aheadOf v) (endCut (endV v.a v.b v.c i))<0:=by
 cases h:endV v.a v.b v.c i with
 | none =>
  refine ⟨high_right,?_⟩
  exact lt_le (ahead_behind v) (Int.le_of_lt (behind_high v))
 | some e =>
  obtain ⟨h1,h2⟩:=end_good hv h
  refine ⟨?_,?_⟩
  ·show Span.right ⟨1,e⟩=true
   rw [right_ver (.inl rfl),Bool.and_eq_true,decide_eq_true_eq]
   exact ⟨h1,by show e.build.length=0; rw [h2]; rfl⟩
  ·have h3:=end_ahead h
   show stand (aheadOf v) ⟨1,e⟩<0
   have h4:cmpV (bare v) e=-1:=h3
   unfold stand
   rw [if_pos ⟨rfl,rfl,by show cmpV (bare v) e≠0; rw [h4]; decide⟩]
   show cmpV (bare v) e<0
   rw [h4]; decide
theorem lohi {k:Int} {v:Ver} (hk:k=0∨goodV v=true):Span.right (loOf k v)=true∧Span.right (hiOf k v)=true∧stand (loOf k v) (hiOf k v)<0:=by
 rcases hk with rfl | hv
 ·exact ⟨low_right,high_right,low_high⟩
 ·have ha:=ahead_right hv
  have hb:=right_behind ha
  have e1:=ahead_behind v
  have e2:=behind_high v
  have e3:=low_ahead v
  unfold loOf hiOf
  by_cases h1:k=1
  ·subst h1; exact ⟨ha,high_right,lt_lt e1 e2⟩
  by_cases h2:k=2
  ·subst h2; exact ⟨hb,high_right,e2⟩
  by_cases h3:k=3
  ·subst h3; exact ⟨low_right,hb,lt_lt e3 e1⟩
  by_cases h4:k=4
  ·subst h4; exact ⟨low_right,ha,e3⟩
  by_cases h5:k=5
  ·subst h5; exact ⟨ha,hb,e1⟩
  by_cases h7:k=7
  ·subst h7; exact ⟨ha,(endCut_right hv).1,(endCut_right hv).2⟩
  by_cases h8:k=8
  ·subst h8; exact ⟨ha,(endCut_right hv).1,(endCut_right hv).2⟩
  rw [if_neg (by omega),if_neg (by omega),if_neg (by omega),if_neg (by omega),if_neg (by omega),if_neg (by omega)]
  exact ⟨low_right,high_right,low_high⟩
theorem within {s:Sp} {c:Cut} (h1:Span.right s.lo=true) (h2:Span.right s.hi=true) (h:inOne s c):inOne ⟨low,high⟩ c:=⟨le_le (low_le h1) h.1,lt_le h.2 (le_high h2)⟩

def SetOf (r:Rng) (o:List Sp):Prop:=Norm o∧∀ c,inS o c↔inC r c
def RestOf (r:Rng) (o:List Sp):Prop:=Norm o∧∀ c,inS o c↔inOne ⟨low,high⟩ c∧¬ inC r c
theorem inR_one {s:Sp} (h:Span.cnt s=true) (c:Cut):inR [s] c↔inOne s c :=
 ⟨fun ⟨x,hx,_,hi⟩=>by rw [List.mem_singleton] at hx; subst hx; exact hi,fun hi=>⟨s,List.mem_singleton.2 rfl,h,hi⟩⟩
theorem set_span {k:Int} {v:Ver} (h0:0≤k) (h8:k≤8) (h6:k≠6) (hk:k=0∨goodV v=true) (l:List Rng) {o:List Sp} (h:NormalOf [⟨loOf k v,hiOf k v⟩] o):SetOf (.mk k v l) o:=by
 obtain ⟨h1,h2,h3⟩:=lohi (k:=k) hk
 refine ⟨h.1,fun c=>?_⟩
 rw [h.2,inR_one ((cnt_iff _).2 ⟨h1,h2,h3⟩),inC_ver h0 h8]
 unfold inK
 rw [if_neg h6]
 exact ⟨fun g=>⟨within h1 h2 g,g⟩,fun g=>g.2⟩
theorem set_ne {v:Ver} (hv:goodV v=true) (l:List Rng) {n o:List Sp} (hn:NormalOf [⟨aheadOf v,behindOf v⟩] n) (h:NotOf n o):SetOf (.mk 6 v l) o:=by
 have ha:=ahead_right hv
 refine ⟨h.1,fun c=>?_⟩
 rw [h.2,hn.1.inR,hn.2,inR_one ((cnt_iff _).2 ⟨ha,right_behind ha,ahead_behind v⟩),inC_ver (by omega) (by omega)]
 unfold inK
 rw [if_pos rfl]
theorem rest_of {r:Rng} {n o:List Sp} (hn:SetOf r n) (h:NotOf n o):RestOf r o:=⟨h.1,fun c=>by rw [h.2,hn.1.inR,hn.2]⟩
theorem set_not {v:Ver} {r:Rng} {o:List Sp} (h:RestOf r o):SetOf (.mk 11 v [r]) o:=⟨h.1,fun c=>by rw [h.2,inC_not]⟩
theorem set_or {v:Ver} {l:List Rng} {a o:List Sp} (ha:∀ c,inR a c↔∃ x ∈ l,inC x c) (h:NormalOf a o):SetOf (.mk 10 v l) o:=⟨h.1,fun c=>by rw [h.2,ha,inC_or]⟩
theorem set_and {v:Ver} {l:List Rng} {a o:List Sp} (ha:∀ c,inR a c↔∃ x ∈ l,inOne ⟨low,high⟩ c∧¬ inC x c) (h:NotOf a o):SetOf (.mk 9 v l) o:=⟨h.1,fun c=>by
 rw [h.2,ha,inC_and]
 refine and_congr_right fun hc=>⟨fun k x hx=>Classical.byContradiction fun hn=>k ⟨x,hx,hc,hn⟩,?_⟩
 rintro k ⟨x,hx,_,hn⟩
 exact hn (k x hx)⟩
theorem inR_append (a b:List Sp) (c:Cut):inR (a ++ b) c↔inR a c∨inR b c:=by
 constructor
 ·rintro ⟨s,hs,h⟩
  rcases List.mem_append.1 hs with hs | hs
  ·exact .inl ⟨s,hs,h⟩
  ·exact .inr ⟨s,hs,h⟩
 ·rintro (⟨s,hs,h⟩ | ⟨s,hs,h⟩)
  ·exact ⟨s,List.mem_append_left _ hs,h⟩
  ·exact ⟨s,List.mem_append_right _ hs,h⟩

/-! What a version's range has, version by version. -/
theorem ahead_cmp (u v:Ver):stand (aheadOf u) (aheadOf v)=cmpV u v:=by
 unfold stand
 by_cases h:cmpV u v=0
 ·rw [if_neg (fun k=>k.2.2 h),h]; rfl
 ·rw [if_pos ⟨rfl,rfl,h⟩]; rfl
theorem behind_cmp (u v:Ver):stand (behindOf u) (aheadOf v)≤0↔cmpV u v<0:=by
 unfold stand
 by_cases h:cmpV u v=0
 ·rw [if_neg (fun k=>k.2.2 h),h]; simp [behindOf,aheadOf,ordI]
 ·rw [if_pos ⟨rfl,rfl,h⟩]
  show cmpV u v≤0↔cmpV u v<0
  omega
theorem cmp_behind (u v:Ver):stand (aheadOf v) (behindOf u)<0↔cmpV v u≤0:=by
 rw [show stand (aheadOf v) (behindOf u)=- stand (behindOf u) (aheadOf v) by have:=stand_flip (behindOf u) (aheadOf v); omega]
 have h1:=behind_cmp u v
 have h2:=cmpV_ordr.flip u v
 omega
def hereV (o:Option Ver) (v:Ver):Bool:=match o with
 | none=>true
 | some e=>decide (cmpV v e<0)
def kindV (k:Int) (u v:Ver):Bool :=
 if k=1 then decide (0≤cmpV v u) else if k=2 then decide (0<cmpV v u) else if k=3 then decide (cmpV v u≤0) else if k=4 then decide (cmpV v u<0)
 else if k=5 then decide (cmpV v u=0) else if k=6 then decide (cmpV v u≠0) else if k=7 then decide (0≤cmpV v u) && hereV (caretV u) v else if k=8 then decide (0≤cmpV v u) && hereV (tildeV u) v else true
theorem here_iff (u v:Ver) (i:Nat):stand (aheadOf v) (endCut (endV u.a u.b u.c i))<0↔hereV (endV u.a u.b u.c i) v=true:=by
 cases h:endV u.a u.b u.c i with
 | none=>exact ⟨fun _=>rfl,fun _=>lt_le (ahead_behind v) (Int.le_of_lt (behind_high v))⟩
 | some e =>
  show stand (aheadOf v) ⟨1,e⟩<0↔decide (cmpV v e<0)=true
  rw [decide_eq_true_eq]
  have e1:stand (aheadOf v) ⟨1,e⟩=cmpV v e:=by
   unfold stand
   by_cases h:cmpV v e=0
   ·rw [if_neg (fun k=>k.2.2 h),h]; rfl
   ·rw [if_pos ⟨rfl,rfl,h⟩]; rfl
  rw [e1]
theorem inK_iff {k:Int} (h1:1≤k) (h8:k≤8) (u:Ver) {v:Ver} (hv:goodV v=true):inK k u (aheadOf v)↔kindV k u v=true:=by
 have hr:=ahead_right hv
 have a1:=ahead_cmp u v
 have a2:=behind_cmp u v
 have a3:=cmp_behind u v
 have a4:=ahead_cmp v u
 have a5:=cmpV_ordr.flip v u
 have z1:stand low (aheadOf v)≤0:=Int.le_of_lt (low_ahead v)
 have z2:stand (aheadOf v) high<0:=lt_le (ahead_behind v) (Int.le_of_lt (behind_high v))
 have t1:stand (aheadOf v) (endCut (caretV u))<0↔hereV (caretV u) v=true:=here_iff u v _
 have t2:stand (aheadOf v) (endCut (tildeV u))<0↔hereV (tildeV u) v=true:=here_iff u v _
 unfold inK kindV
 rcases (show k=1∨k=2∨k=3∨k=4∨k=5∨k=6∨k=7∨k=8 by omega) with rfl | rfl | rfl | rfl | rfl | rfl | rfl | rfl
 ·simp only [reduceIte,Int.reduceEq,if_false,decide_eq_true_eq]
  show (stand (aheadOf u) (aheadOf v)≤0∧stand (aheadOf v) high<0)↔_
  omega
 ·simp only [reduceIte,Int.reduceEq,if_false,decide_eq_true_eq]
  show (stand (behindOf u) (aheadOf v)≤0∧stand (aheadOf v) high<0)↔_
  omega
 ·simp only [reduceIte,Int.reduceEq,if_false,decide_eq_true_eq]
  show (stand low (aheadOf v)≤0∧stand (aheadOf v) (behindOf u)<0)↔_
  omega
 ·simp only [reduceIte,Int.reduceEq,if_false,decide_eq_true_eq]
  show (stand low (aheadOf v)≤0∧stand (aheadOf v) (aheadOf u)<0)↔_
  omega
 ·simp only [reduceIte,Int.reduceEq,if_false,decide_eq_true_eq]
  show (stand (aheadOf u) (aheadOf v)≤0∧stand (aheadOf v) (behindOf u)<0)↔_
  omega
 ·simp only [reduceIte,Int.reduceEq,if_false,decide_eq_true_eq]
  show ¬ (stand (aheadOf u) (aheadOf v)≤0∧stand (aheadOf v) (behindOf u)<0)↔_
  omega
 ·simp only [reduceIte,Int.reduceEq,if_false,Bool.and_eq_true,decide_eq_true_eq]
  show (stand (aheadOf u) (aheadOf v)≤0∧stand (aheadOf v) (endCut (caretV u))<0)↔_
  rw [t1]
  exact and_congr_left fun _=>by omega
 ·simp only [reduceIte,Int.reduceEq,if_false,Bool.and_eq_true,decide_eq_true_eq]
  show (stand (aheadOf u) (aheadOf v)≤0∧stand (aheadOf v) (endCut (tildeV u))<0)↔_
  rw [t2]
  exact and_congr_left fun _=>by omega
mutual
def inV:Rng→Ver→Bool
 | .mk k u l,v=>if k=9 then allV l v else if k=10 then anyV l v else if k=11 then notV l v else kindV k u v
def allV:List Rng→Ver→Bool
 | [],_=>true
 | r :: rs,v=>inV r v && allV rs v
def anyV:List Rng→Ver→Bool
 | [],_=>false
 | r :: rs,v=>inV r v || anyV rs v
def notV:List Rng→Ver→Bool
 | [],_=>true
 | r :: _,v=>!inV r v
end
theorem inV_eq (k:Int) (u:Ver) (l:List Rng) (v:Ver):inV (.mk k u l) v=if k=9 then allV l v else if k=10 then anyV l v else if k=11 then notV l v else kindV k u v:=by rw [inV]
theorem allV_cons (r:Rng) (rs:List Rng) (v:Ver):allV (r :: rs) v=(inV r v && allV rs v):=by rw [allV]
theorem anyV_cons (r:Rng) (rs:List Rng) (v:Ver):anyV (r :: rs) v=(inV r v || anyV rs v):=by rw [anyV]
theorem allV_iff {v:Ver}:∀ {l:List Rng},allV l v=true↔∀ x ∈ l,inV x v=true
 | []=>by rw [allV]; simp
 | r :: rs=>by rw [allV_cons,Bool.and_eq_true,allV_iff]; simp
theorem anyV_iff {v:Ver}:∀ {l:List Rng},anyV l v=true↔∃ x ∈ l,inV x v=true
 | []=>by rw [anyV]; simp
 | r :: rs=>by rw [anyV_cons,Bool.or_eq_true,anyV_iff]; simp
theorem inC_inV {v:Ver} (hv:goodV v=true):∀ (n:Nat) (r:Rng),SizeOf.sizeOf r≤n→∀ d,goodR r d=true→(inC r (aheadOf v)↔inV r v=true)
 | 0,r,h,_,_=>by obtain ⟨k,u,l⟩:=r; simp at h
 | n+1,.mk k u l,h,d,hg=>by
  have z:inOne ⟨low,high⟩ (aheadOf v):=ahead_in (ahead_right hv)
  have IH:∀ x ∈ l,(inC x (aheadOf v)↔inV x v=true):=fun x hx=>by
   obtain ⟨_,h2,_⟩:=Range.good_cases hg
   exact inC_inV hv n x (by have:=Range.size_mem (kind:=k) (v:=u) hx; omega) _ (Range.goodL_mem h2 hx)
  obtain ⟨_,_,h3⟩:=Range.good_cases hg
  rw [inV_eq]
  rcases h3 with ⟨a,b,_,rfl⟩ | ⟨_,⟨b,rfl⟩ | ⟨b,_⟩ | ⟨b,y,rfl⟩⟩
  ·rw [inC_ver (by omega) b,if_neg (by omega),if_neg (by omega),if_neg (by omega),← inK_iff a b u hv]
   exact ⟨fun g=>g.2,fun g=>⟨z,g⟩⟩
  ·subst b
   rw [inC_ver (by omega) (by omega)]
   exact ⟨fun _=>rfl,fun _=>⟨z,z⟩⟩
  ·rcases b with rfl | rfl
   ·rw [inC_and,if_pos rfl,allV_iff]
    exact ⟨fun g x hx=>(IH x hx).1 (g.2 x hx),fun g=>⟨z,fun x hx=>(IH x hx).2 (g x hx)⟩⟩
   ·rw [inC_or,if_neg (by omega),if_pos rfl,anyV_iff]
    exact ⟨fun ⟨x,hx,g⟩=>⟨x,hx,(IH x hx).1 g⟩,fun ⟨x,hx,g⟩=>⟨x,hx,(IH x hx).2 g⟩⟩
  ·subst b
   have hy:=IH y (List.mem_singleton.2 rfl)
   rw [inC_not,if_neg (by omega),if_neg (by omega),if_pos rfl,notV,Bool.not_eq_true',← Bool.not_eq_true,← hy]
   exact ⟨fun g=>g.2,fun g=>⟨z,g⟩⟩
theorem set_has {r:Rng} {d:Nat} {o:List Sp} {v:Ver} (h:SetOf r o) (hg:goodR r d=true) (hv:goodV v=true):hasV o v=inV r v:=by
 rw [Bool.eq_iff_iff,hasV_iff h.1.rights (ahead_right hv),h.2]
 exact inC_inV hv _ r (Nat.le_refl _) d hg
end Go.Proofs.YtnpjklaaokiikaaGreatDoor.Nrm
namespace Go.Proofs.YtnpjklaaokiikaaGreatDoor.Copy
open Go.RowKit Num Ident Semver Fr
open Range (Rng noRng RV Lies RgRow CellsAt KeepS LtB InS FitV wt wtL)
open KR (KRow AtV)
open Nrm (tot totL)

theorem own_srow {w:World} {base:Nat} {A:Option Addr} {n c:Nat} {xs:List (List UInt8)} (h:w.ownsRow base 9 1 (.slice A n c) n (strs xs)):SRow w A n xs∧n≤c:=by
 obtain ⟨A',c',e,h1,h2⟩:=SRow.of_own h
 injection e with e1 _ e2
 subst e1
 subst e2
 exact ⟨h2,h1⟩
theorem own_txt {w:World} {base B:Nat} {A:Option Addr} {n c:Nat} {xs:List Value} (h:w.ownsRow base 9 1 (.slice A n c) n xs):InS (Txt w B) A n:=fun h0=>by
 rcases h.2 with ⟨e,h1⟩ | ⟨g,cp,cur,e,_,hh,_⟩
 ·omega
 ·injection e with e1 _ _
  exact ⟨g,0,e1,.inr ⟨cur,hh⟩⟩
theorem Cur.not {W:World} {B:Nat} {G:Ghost} {g:Nat} {rs:List Rng} {j:Nat} {x:RV} (h:Cur W B G g rs j x):Not W B g:=by
 obtain ⟨c,xs,_,h2,_⟩:=h.here
 exact own_not h2 (by decide)
def set5V (W:World) (g o:Nat) (v:Ver) (A:Option Addr) (c:Nat) (Bx:Option Addr) (d:Nat):World :=
 ((((W.setCell ⟨g,o+1,none⟩ v.a).setCell ⟨g,o+2,none⟩ v.b).setCell ⟨g,o+3,none⟩ v.c).setCell ⟨g,o+4,none⟩ (.slice A v.pre.length c)).setCell ⟨g,o+5,none⟩ (.slice Bx v.build.length d)
theorem ver_step {W1 W:World} {B:Nat} {G:Ghost} {v:Value} {T:List Td} (h:CopyAt W1 W B G v T) {g:Nat} {rs:List Rng} {j:Nat} {x:RV} (hc:Cur W B G g rs j x) {A:Option Addr} {c:Nat} {Bx:Option Addr} {d b1:Nat}
  (oA:W.ownsRow b1 9 1 (.slice A x.v.pre.length c) x.v.pre.length (strs x.v.pre)) (oB:W.ownsRow b1 9 1 (.slice Bx x.v.build.length d) x.v.build.length (strs x.v.build)) :
  CopyAt W1 (set5V W g (j * 7) x.v A c Bx d) B G v T∧Cur (set5V W g (j * 7) x.v A c Bx d) B G g rs j ⟨x.kind,x.v,A,c,Bx,d,x.L,x.n,x.e⟩:=by
 have k0:=hc.ok
 have rA:=own_srow oA
 have rB:=own_srow oB
 have k1:Ok1 W B G (rs.getD j noRng) ⟨x.kind,x.v,A,c,x.B,x.d,x.L,x.n,x.e⟩:=⟨k0.kind,k0.ver,rA.1,k0.build,own_txt oA,k0.ib,rA.2,k0.cb,k0.fit,k0.nil,k0.cap,k0.subs,k0.at_⟩
 have k2:Ok1 W B G (rs.getD j noRng) ⟨x.kind,x.v,A,c,Bx,d,x.L,x.n,x.e⟩:=⟨k0.kind,k0.ver,rA.1,rB.1,own_txt oA,own_txt oB,rA.2,rB.2,k0.fit,k0.nil,k0.cap,k0.subs,k0.at_⟩
 have hg:=hc.told
 unfold set5V
 have s1:=hc.store 1 (by omega) x.v.a x rfl k0
 have t1:=h.cur hg s1
 have m1:=k1.but (But.one W g (j * 7+1) x.v.a) hc.not
 have q1:=k2.but (But.one W g (j * 7+1) x.v.a) hc.not
 generalize W.setCell ⟨g,j * 7+1,none⟩ x.v.a=V1 at s1 t1 m1 q1 ⊢
 have s2:=s1.store 2 (by omega) x.v.b x rfl s1.ok
 have t2:=t1.cur hg s2
 have m2:=m1.but (But.one V1 g (j * 7+2) x.v.b) s1.not
 have q2:=q1.but (But.one V1 g (j * 7+2) x.v.b) s1.not
 generalize V1.setCell ⟨g,j * 7+2,none⟩ x.v.b=V2 at s2 t2 m2 q2 ⊢
 have s3:=s2.store 3 (by omega) x.v.c x rfl s2.ok
 have t3:=t2.cur hg s3
 have m3:=m2.but (But.one V2 g (j * 7+3) x.v.c) s2.not
 have q3:=q2.but (But.one V2 g (j * 7+3) x.v.c) s2.not
 generalize V2.setCell ⟨g,j * 7+3,none⟩ x.v.c=V3 at s3 t3 m3 q3 ⊢
 have s4:=s3.store 4 (by omega) (.slice A x.v.pre.length c) ⟨x.kind,x.v,A,c,x.B,x.d,x.L,x.n,x.e⟩ rfl m3
 have t4:=t3.cur hg s4
 have q4:=q3.but (But.one V3 g (j * 7+4) (.slice A x.v.pre.length c)) s3.not
 generalize V3.setCell ⟨g,j * 7+4,none⟩ (.slice A x.v.pre.length c)=V4 at s4 t4 q4 ⊢
 have s5:=s4.store 5 (by omega) (.slice Bx x.v.build.length d) ⟨x.kind,x.v,A,c,Bx,d,x.L,x.n,x.e⟩ rfl q4
 exact ⟨t4.cur hg s5,s5⟩
theorem Cur.more {W:World} {B:Nat} {G G':Ghost} {g:Nat} {rs:List Rng} {j:Nat} {x:RV} (h:Cur W B G g rs j x) (ht:Typed W B G') (hG:∀ k q,G k=some q→G' k=some q):Cur W B G' g rs j x:=by
 obtain ⟨c,xs,h1,h2,h3,h4⟩:=h.here
 exact ⟨ht,hG _ _ h.told,h.lt,c,xs,h1,h2,fun j hj=>(h3 j hj).more hG,h4⟩
theorem sub_step {W1 W:World} {B:Nat} {G:Ghost} {v:Value} {T:List Td} (h:CopyAt W1 W B G v T) {g:Nat} {rs:List Rng} {j:Nat} {x:RV} (hc:Cur W B G g rs j x) {A:Option Addr} {e b0:Nat} {xs:List RV}
  (ho:W.ownsRow b0 55 7 (.slice A x.n e) x.n (xs.flatMap RV.vals)) (hxs:xs.length=x.n) (hb:W1.heap.size≤b0) (hf:∀ k q,G k=some q→k<b0) (hk:∀ i,i<x.n→Ok1 W B G ((rs.getD j noRng).subs.getD i noRng) (xs.getD i default)) :
  ∃ G':Ghost,CopyAt W1 (W.setCell ⟨g,j * 7+6,none⟩ (.slice A x.n e)) B G' v T∧Cur (W.setCell ⟨g,j * 7+6,none⟩ (.slice A x.n e)) B G' g rs j ⟨x.kind,x.v,x.A,x.c,x.B,x.d,A,x.n,e⟩∧(∀ k q,G k=some q→G' k=some q)∧TdOk G' ⟨A,e,(rs.getD j noRng).subs⟩:=by
 have k0:=hc.ok
 have hg:=hc.told
 have hsub:=k0.subs
 rcases ho.2 with ⟨e1,h0⟩ | ⟨g',cp,cur,e1,hg',hh,hn,_⟩
 ·injection e1 with e1 _ e2
  subst e1
  subst e2
  have hnil:(rs.getD j noRng).subs=[]:=List.eq_nil_of_length_eq_zero (by omega)
  have k1:Ok1 W B G (rs.getD j noRng) ⟨x.kind,x.v,x.A,x.c,x.B,x.d,none,x.n,0⟩:=⟨k0.kind,k0.ver,k0.pre,k0.build,k0.ip,k0.ib,k0.cp,k0.cb,k0.fit,fun _=>rfl,by show x.n≤0; omega,hsub,.inl ⟨fun _=>default,hsub,fun h=>absurd h (by show ¬ 0<x.n; omega),fun i hi=>absurd hi (by show ¬ i<x.n; omega)⟩⟩
  have s:=hc.store 6 (by omega) (.slice none x.n 0) ⟨x.kind,x.v,x.A,x.c,x.B,x.d,none,x.n,0⟩ rfl k1
  exact ⟨G,h.cur hg s,s,fun _ _ q=>q,.inl hnil⟩
 ·injection e1 with e1 _ e2
  subst e1
  subst e2
  have hGn:G g'=none:=by
   cases hq:G g' with
   | none=>rfl
   | some q=>have:=hf g' q hq; omega
  have own:W.ownsRow B 55 7 (.slice (some ⟨g',0,none⟩) (rs.getD j noRng).subs.length e) (rs.getD j noRng).subs.length (xs.flatMap RV.vals):=by rw [hsub]; exact ho.mono (Nat.le_trans h.le hb)
  have hsm:∀ q ∈ (rs.getD j noRng).subs,tot q≤12:=fun q hq=>by
   have h1:=h.small g rs hg (rs.getD j noRng) (by rw [List.getD_eq_getElem?_getD,List.getElem?_eq_getElem hc.lt]; exact List.getElem_mem _)
   rw [Nrm.tot_eq] at h1
   have:=tot_mem hq
   omega
  have ha:=h.add hGn (Nat.le_trans hb hg') (hxs.trans hsub.symm) own (fun i hi=>hk i (by omega)) hsm
  have hm:∀ k q,G k=some q→(if k=g' then some (rs.getD j noRng).subs else G k)=some q:=fun k q hq=>by
   rw [if_neg (fun e=>by rw [e,hGn] at hq; cases hq)]; exact hq
  refine ⟨fun k=>if k=g' then some (rs.getD j noRng).subs else G k,?_⟩
  have hG':(fun k=>if k=g' then some (rs.getD j noRng).subs else G k) g'=some (rs.getD j noRng).subs:=by
   show (if g'=g' then _ else _)=_
   rw [if_pos rfl]
  have hc2:=hc.more ha.typed hm
  have k1:Ok1 W B (fun k=>if k=g' then some (rs.getD j noRng).subs else G k) (rs.getD j noRng) ⟨x.kind,x.v,x.A,x.c,x.B,x.d,some ⟨g',0,none⟩,x.n,e⟩ :=
   ⟨k0.kind,k0.ver,k0.pre,k0.build,k0.ip,k0.ib,k0.cp,k0.cb,k0.fit,(fun q=>by cases q),hn,hsub,.inr ⟨g',rfl,hG'⟩⟩
  have s:=hc2.store 6 (by omega) (.slice (some ⟨g',0,none⟩) x.n e) ⟨x.kind,x.v,x.A,x.c,x.B,x.d,some ⟨g',0,none⟩,x.n,e⟩ rfl k1
  exact ⟨ha.cur (hm g rs hg) s,s,hm,.inr ⟨g',rfl,hG'⟩⟩
theorem infoTd:(Tryz.prog.info? 53).map (fun i=>(i.zero,i.size,i.bytes))=some (some (.slice none 0 0),1,24):=by kernel_rfl
theorem push {W1 W:World} {B:Nat} {G:Ghost} {v:Value} {T:List Td} (h:CopyAt W1 W B G v T) {t:Td} (ht:TdOk G t) (hT:T.length≤1000) (ty:TypeId) :
  ∃ v' w',(Builtin.append_ #[202,202] ty #[v,.slice (some ⟨W.heap.size,0,none⟩) 1 1]).run Tryz.prog (W.alloc (.cells #[t.val] 53))=.ok v' w'∧CopyAt W1 w' B G v' (T ++ [t]):=by
 obtain ⟨i,hi,hz,hs,hby⟩:=info_parts infoTd
 have hb:Below W.heap.size W (W.alloc (.cells #[t.val] 53)):=(Below.refl _ _).alloc (Nat.le_refl _) _
 have h0:=h.below hb
 have hbase:W1.heap.size≤(W.alloc (.cells #[t.val] 53)).heap.size:=Nat.le_trans h.bel.size hb.size
 obtain ⟨v',w',h1,h2,h3,_⟩:=run_append_own (P:=Tryz.prog) (W.alloc (.cells #[t.val] 53)) W1.heap.size 202 ty 53 i (.slice none 0 0) 1 24 Tryz.underlying202 hi hz hs hby rfl (by omega) v T.length _ h0.own ⟨W.heap.size,0,none⟩ 1 1 [t.val]
  rfl (fun j u hu=>by
   have hj:j=0:=by have:=(List.getElem?_eq_some_iff.1 hu).1; simpa using this
   subst hj
   simp only [List.getElem?_cons_zero,Option.some.injEq] at hu
   subst hu
   simp [Addr.add,go_sem]) (fun u hu=>by rw [List.mem_singleton] at hu; rw [hu]; rfl) (by unfold maxLen; omega) (by omega) hbase
 refine ⟨v',w',h1,?_⟩
 have hbt:But (fun k=>v.ownBlock=some k) (W.alloc (.cells #[t.val] 53)) w':=But.of_grown h3 fun b e=>e
 have htyped:Typed w' B G:=by
  cases hv:v.ownBlock with
  | none =>
   rw [hv] at hbt
   exact h0.typed.below (hbt.below (fun k q=>by cases q) (Nat.le_refl _))
  | some tb =>
   rw [hv] at hbt
   obtain ⟨a1,a2⟩:=h0.apart hv
   exact h0.typed.but (hbt.mono fun k q=>by injection q with q; exact q.symm) a2 a1
 refine ⟨htyped,by rw [List.length_append,List.map_append]; exact h2,fun z hz=>?_,h.hi,h.small,h0.bel.trans (hbt.below (fun k q=>(h0.own.lt k q).1) hbase),h.le⟩
 rcases List.mem_append.1 hz with hz | hz
 ·exact h.ok z hz
 ·rw [List.mem_singleton] at hz; rw [hz]; exact ht
end Go.Proofs.YtnpjklaaokiikaaGreatDoor.Copy
namespace Go.Proofs.YtnpjklaaokiikaaGreatDoor.Nrm
open Go.RowKit Num Ident Semver Prec Span
open Range (Rng noRng goodR goodL fits wt wtL)

def few (kind:Int) (l:List Rng):Rng:=if l.length=0 then noRng else if l.length=1 then l.getD 0 noRng else .mk kind noVer l




theorem wtL_append:∀ a b:List Rng,wtL (a ++ b)=wtL a+wtL b
 | [],b=>by simp [wtL]
 | x :: a,b=>by rw [List.cons_append,Range.wtL_cons,Range.wtL_cons,wtL_append a b]; omega
end Go.Proofs.YtnpjklaaokiikaaGreatDoor.Nrm
