/-
  What the theorem of the last text needs of these: NmMath, NmPlain, NmCut. Conditions: as each theorem states.
-/
import Derived.Test.YtneilnibghhgmaaGreatDoorFwA1
import Derived.Test.YtneilnibghhgmaaGreatDoorFwA9
import Derived.Test.YtneilnibghhgmaaGreatDoorFwA10
import Derived.Test.YtneilnibghhgmaaGreatDoorFwA13
import Derived.Test.YtneilnibghhgmaaGreatDoorFwA14
set_option maxRecDepth 100000
set_option maxHeartbeats 25600000
namespace Go.Proofs.YtneilnibghhgmaaGreatDoor.Nrm
open Go.RowKit Num Ident Semver Prec Span
open Range (Rng noRng goodR goodL fits)


def endCut (o:Option Ver):Cut:=match o with
 | none=>high
 | some e=>⟨1,e⟩
def loOf (k:Int) (v:Ver):Cut:=if k=1∨k=5∨k=7∨k=8 then aheadOf v else if k=2 then behindOf v else low
def hiOf (k:Int) (v:Ver):Cut:=if k=3∨k=5 then behindOf v else if k=4 then aheadOf v else if k=7 then endCut (caretV v) else if k=8 then endCut (tildeV v) else high
def inK (k:Int) (v:Ver) (c:Cut):Prop:=if k=6 then ¬ inOne ⟨aheadOf v,behindOf v⟩ c else inOne ⟨loOf k v,hiOf k v⟩ c
mutual
def inC:Rng→Cut→Prop
 | .mk k v l,c=>inOne ⟨low,high⟩ c∧(if k=9 then allC l c else if k=10 then anyC l c else if k=11 then ¬ headC l c else inK k v c)
def allC:List Rng→Cut→Prop
 | [],_=>True
 | r :: rs,c=>inC r c∧allC rs c
def anyC:List Rng→Cut→Prop
 | [],_=>False
 | r :: rs,c=>inC r c∨anyC rs c
def headC:List Rng→Cut→Prop
 | [],_=>False
 | r :: _,c=>inC r c
end
theorem inC_eq (k:Int) (v:Ver) (l:List Rng) (c:Cut):inC (.mk k v l) c=(inOne ⟨low,high⟩ c∧(if k=9 then allC l c else if k=10 then anyC l c else if k=11 then ¬ headC l c else inK k v c)):=by rw [inC]
theorem allC_iff {c:Cut}:∀ {l:List Rng},allC l c↔∀ x ∈ l,inC x c
 | []=>by rw [allC]; simp
 | r :: rs=>by rw [allC,allC_iff]; simp
theorem anyC_iff {c:Cut}:∀ {l:List Rng},anyC l c↔∃ x ∈ l,inC x c
 | []=>by rw [anyC]; simp
 | r :: rs=>by rw [anyC,anyC_iff]; simp
theorem headC_one (r:Rng) (c:Cut):headC [r] c↔inC r c:=by rw [headC]
theorem inC_all {r:Rng} {c:Cut} (h:inC r c):inOne ⟨low,high⟩ c:=by
 obtain ⟨k,v,l⟩:=r
 rw [inC_eq] at h; exact h.1
theorem inC_and (v:Ver) (l:List Rng) (c:Cut):inC (.mk 9 v l) c↔inOne ⟨low,high⟩ c∧∀ x ∈ l,inC x c:=by rw [inC_eq,if_pos rfl,allC_iff]
theorem inC_or (v:Ver) (l:List Rng) (c:Cut):inC (.mk 10 v l) c↔∃ x ∈ l,inC x c:=by
 rw [inC_eq,if_neg (by omega),if_pos rfl,anyC_iff]
 exact ⟨fun h=>h.2,fun ⟨x,hx,h⟩=>⟨inC_all h,x,hx,h⟩⟩
theorem inC_not (v:Ver) (r:Rng) (c:Cut):inC (.mk 11 v [r]) c↔inOne ⟨low,high⟩ c∧¬ inC r c:=by
 rw [inC_eq,if_neg (by omega),if_neg (by omega),if_pos rfl,headC_one]
theorem inC_ver {k:Int} (h1:0≤k) (h2:k≤8) (v:Ver) (l:List Rng) (c:Cut):inC (.mk k v l) c↔inOne ⟨low,high⟩ c∧inK k v c:=by
 rw [inC_eq,if_neg (by omega),if_neg (by omega),if_neg (by omega)]
theorem good_bare {v:Ver} (h:goodV v=true):goodV (bare v)=true:=by
 unfold goodV bare at *
 rw [Bool.and_eq_true,Bool.and_eq_true] at h ⊢
 exact ⟨h.1,h.2.1,rfl⟩
theorem ahead_right {v:Ver} (h:goodV v=true):Span.right (aheadOf v)=true:=by
 rw [right_ver (.inl rfl),Bool.and_eq_true,decide_eq_true_eq]
 exact ⟨good_bare h,rfl⟩
theorem end_good {v e:Ver} {i:Nat} (hv:goodV v=true) (h:endV v.a v.b v.c i=some e):goodV e=true∧e.build=[]:=by
 unfold goodV at hv
 rw [Bool.and_eq_true] at hv
 have hh:=of_decide_eq_true hv.1
 have key:∀ x y z,x≤maxField→y≤maxField→z≤maxField→goodV (firstV x y z)=true∧(firstV x y z).build=[]:=fun x y z h1 h2 h3=>by
  refine ⟨?_,rfl⟩
  unfold goodV
  rw [Bool.and_eq_true]
  exact ⟨decide_eq_true ⟨h1,h2,h3⟩,show (goodFrom true [[48]] 0 && goodFrom false [] 0)=true by decide⟩
 have hm:maxField=9223372036854775807:=rfl
 unfold endV at h
 split at h
 ·split at h
  ·cases h
  ·injection h with h; subst h; exact key _ _ _ (by omega) (Nat.zero_le _) (Nat.zero_le _)
 ·split at h
  ·split at h
   ·cases h
   ·injection h with h; subst h; exact key _ _ _ hh.1 (by omega) (Nat.zero_le _)
  ·split at h
   ·cases h
   ·injection h with h; subst h; exact key _ _ _ hh.1 hh.2.1 (by omega)
theorem endCut_right {v:Ver} {i:Nat} (hv:goodV v=true):Span.right (endCut (endV v.a v.b v.c i))=true∧stand (aheadOf v) (endCut (endV v.a v.b v.c i))<0:=by
 cases h:endV v.a v.b v.c i with
 | none =>
  refine ⟨high_right,?_⟩
  exact lt_le (ahead_behind v) (Int.le_of_lt (behind_high v))
 | some e =>
  obtain ⟨h1,h2⟩:=end_good hv h
  refine ⟨?_,?_⟩
  ·show Span.right ⟨1,e⟩=true
   rw [right_ver (.inl rfl),Bool.and_eq_true,decide_eq_true_eq]
   exact ⟨h1,by show e.build.length=0; rw [h2]; rfl⟩
  ·have h3:=end_ahead h
   show stand (aheadOf v) ⟨1,e⟩<0
   have h4:cmpV (bare v) e=-1:=h3
   unfold stand
   rw [if_pos ⟨rfl,rfl,by show cmpV (bare v) e≠0; rw [h4]; decide⟩]
   show cmpV (bare v) e<0
   rw [h4]; decide
theorem lohi {k:Int} {v:Ver} (hk:k=0∨goodV v=true):Span.right (loOf k v)=true∧Span.right (hiOf k v)=true∧stand (loOf k v) (hiOf k v)<0:=by
 rcases hk with rfl | hv
 ·exact ⟨low_right,high_right,low_high⟩
 ·have ha:=ahead_right hv
  have hb:=right_behind ha
  have e1:=ahead_behind v
  have e2:=behind_high v
  have e3:=low_ahead v
  unfold loOf hiOf
  by_cases h1:k=1
  ·subst h1; exact ⟨ha,high_right,lt_lt e1 e2⟩
  by_cases h2:k=2
  ·subst h2; exact ⟨hb,high_right,e2⟩
  by_cases h3:k=3
  ·subst h3; exact ⟨low_right,hb,lt_lt e3 e1⟩
  by_cases h4:k=4
  ·subst h4; exact ⟨low_right,ha,e3⟩
  by_cases h5:k=5
  ·subst h5; exact ⟨ha,hb,e1⟩
  by_cases h7:k=7
  ·subst h7; exact ⟨ha,(endCut_right hv).1,(endCut_right hv).2⟩
  by_cases h8:k=8
  ·subst h8; exact ⟨ha,(endCut_right hv).1,(endCut_right hv).2⟩
  rw [if_neg (by omega),if_neg (by omega),if_neg (by omega),if_neg (by omega),if_neg (by omega),if_neg (by omega)]
  exact ⟨low_right,high_right,low_high⟩
theorem within {s:Sp} {c:Cut} (h1:Span.right s.lo=true) (h2:Span.right s.hi=true) (h:inOne s c):inOne ⟨low,high⟩ c:=⟨le_le (low_le h1) h.1,lt_le h.2 (le_high h2)⟩

def SetOf (r:Rng) (o:List Sp):Prop:=Norm o∧∀ c,inS o c↔inC r c
def RestOf (r:Rng) (o:List Sp):Prop:=Norm o∧∀ c,inS o c↔inOne ⟨low,high⟩ c∧¬ inC r c
theorem inR_one {s:Sp} (h:Span.cnt s=true) (c:Cut):inR [s] c↔inOne s c :=
 ⟨fun ⟨x,hx,_,hi⟩=>by rw [List.mem_singleton] at hx; subst hx; exact hi,fun hi=>⟨s,List.mem_singleton.2 rfl,h,hi⟩⟩
theorem set_span {k:Int} {v:Ver} (h0:0≤k) (h8:k≤8) (h6:k≠6) (hk:k=0∨goodV v=true) (l:List Rng) {o:List Sp} (h:NormalOf [⟨loOf k v,hiOf k v⟩] o):SetOf (.mk k v l) o:=by
 obtain ⟨h1,h2,h3⟩:=lohi (k:=k) hk
 refine ⟨h.1,fun c=>?_⟩
 rw [h.2,inR_one ((cnt_iff _).2 ⟨h1,h2,h3⟩),inC_ver h0 h8]
 unfold inK
 rw [if_neg h6]
 exact ⟨fun g=>⟨within h1 h2 g,g⟩,fun g=>g.2⟩
theorem set_ne {v:Ver} (hv:goodV v=true) (l:List Rng) {n o:List Sp} (hn:NormalOf [⟨aheadOf v,behindOf v⟩] n) (h:NotOf n o):SetOf (.mk 6 v l) o:=by
 have ha:=ahead_right hv
 refine ⟨h.1,fun c=>?_⟩
 rw [h.2,hn.1.inR,hn.2,inR_one ((cnt_iff _).2 ⟨ha,right_behind ha,ahead_behind v⟩),inC_ver (by omega) (by omega)]
 unfold inK
 rw [if_pos rfl]
theorem rest_of {r:Rng} {n o:List Sp} (hn:SetOf r n) (h:NotOf n o):RestOf r o:=⟨h.1,fun c=>by rw [h.2,hn.1.inR,hn.2]⟩
theorem set_not {v:Ver} {r:Rng} {o:List Sp} (h:RestOf r o):SetOf (.mk 11 v [r]) o:=⟨h.1,fun c=>by rw [h.2,inC_not]⟩
theorem set_or {v:Ver} {l:List Rng} {a o:List Sp} (ha:∀ c,inR a c↔∃ x ∈ l,inC x c) (h:NormalOf a o):SetOf (.mk 10 v l) o:=⟨h.1,fun c=>by rw [h.2,ha,inC_or]⟩
theorem set_and {v:Ver} {l:List Rng} {a o:List Sp} (ha:∀ c,inR a c↔∃ x ∈ l,inOne ⟨low,high⟩ c∧¬ inC x c) (h:NotOf a o):SetOf (.mk 9 v l) o:=⟨h.1,fun c=>by
 rw [h.2,ha,inC_and]
 refine and_congr_right fun hc=>⟨fun k x hx=>Classical.byContradiction fun hn=>k ⟨x,hx,hc,hn⟩,?_⟩
 rintro k ⟨x,hx,_,hn⟩
 exact hn (k x hx)⟩
theorem inR_append (a b:List Sp) (c:Cut):inR (a ++ b) c↔inR a c∨inR b c:=by
 constructor
 ·rintro ⟨s,hs,h⟩
  rcases List.mem_append.1 hs with hs | hs
  ·exact .inl ⟨s,hs,h⟩
  ·exact .inr ⟨s,hs,h⟩
 ·rintro (⟨s,hs,h⟩ | ⟨s,hs,h⟩)
  ·exact ⟨s,List.mem_append_left _ hs,h⟩
  ·exact ⟨s,List.mem_append_right _ hs,h⟩

/-! What a version's range has, version by version. -/
theorem ahead_cmp (u v:Ver):stand (aheadOf u) (aheadOf v)=cmpV u v:=by
 unfold stand
 by_cases h:cmpV u v=0
 ·rw [if_neg (fun k=>k.2.2 h),h]; rfl
 ·rw [if_pos ⟨rfl,rfl,h⟩]; rfl
theorem behind_cmp (u v:Ver):stand (behindOf u) (aheadOf v)≤0↔cmpV u v<0:=by
 unfold stand
 by_cases h:cmpV u v=0
 ·rw [if_neg (fun k=>k.2.2 h),h]; simp [behindOf,aheadOf,ordI]
 ·rw [if_pos ⟨rfl,rfl,h⟩]
  show cmpV u v≤0↔cmpV u v<0
  omega
theorem cmp_behind (u v:Ver):stand (aheadOf v) (behindOf u)<0↔cmpV v u≤0:=by
 rw [show stand (aheadOf v) (behindOf u)=- stand (behindOf u) (aheadOf v) by have:=stand_flip (behindOf u) (aheadOf v); omega]
 have h1:=behind_cmp u v
 have h2:=cmpV_ordr.flip u v
 omega
def hereV (o:Option Ver) (v:Ver):Bool:=match o with
 | none=>true
 | some e=>decide (cmpV v e<0)
def kindV (k:Int) (u v:Ver):Bool :=
 if k=1 then decide (0≤cmpV v u) else if k=2 then decide (0<cmpV v u) else if k=3 then decide (cmpV v u≤0) else if k=4 then decide (cmpV v u<0)
 else if k=5 then decide (cmpV v u=0) else if k=6 then decide (cmpV v u≠0) else if k=7 then decide (0≤cmpV v u) && hereV (caretV u) v else if k=8 then decide (0≤cmpV v u) && hereV (tildeV u) v else true
theorem here_iff (u v:Ver) (i:Nat):stand (aheadOf v) (endCut (endV u.a u.b u.c i))<0↔hereV (endV u.a u.b u.c i) v=true:=by
 cases h:endV u.a u.b u.c i with
 | none=>exact ⟨fun _=>rfl,fun _=>lt_le (ahead_behind v) (Int.le_of_lt (behind_high v))⟩
 | some e =>
  show stand (aheadOf v) ⟨1,e⟩<0↔decide (cmpV v e<0)=true
  rw [decide_eq_true_eq]
  have e1:stand (aheadOf v) ⟨1,e⟩=cmpV v e:=by
   unfold stand
   by_cases h:cmpV v e=0
   ·rw [if_neg (fun k=>k.2.2 h),h]; rfl
   ·rw [if_pos ⟨rfl,rfl,h⟩]; rfl
  rw [e1]
theorem inK_iff {k:Int} (h1:1≤k) (h8:k≤8) (u:Ver) {v:Ver} (hv:goodV v=true):inK k u (aheadOf v)↔kindV k u v=true:=by
 have hr:=ahead_right hv
 have a1:=ahead_cmp u v
 have a2:=behind_cmp u v
 have a3:=cmp_behind u v
 have a4:=ahead_cmp v u
 have a5:=cmpV_ordr.flip v u
 have z1:stand low (aheadOf v)≤0:=Int.le_of_lt (low_ahead v)
 have z2:stand (aheadOf v) high<0:=lt_le (ahead_behind v) (Int.le_of_lt (behind_high v))
 have t1:stand (aheadOf v) (endCut (caretV u))<0↔hereV (caretV u) v=true:=here_iff u v _
 have t2:stand (aheadOf v) (endCut (tildeV u))<0↔hereV (tildeV u) v=true:=here_iff u v _
 unfold inK kindV
 rcases (show k=1∨k=2∨k=3∨k=4∨k=5∨k=6∨k=7∨k=8 by omega) with rfl | rfl | rfl | rfl | rfl | rfl | rfl | rfl
 ·simp only [reduceIte,Int.reduceEq,if_false,decide_eq_true_eq]
  show (stand (aheadOf u) (aheadOf v)≤0∧stand (aheadOf v) high<0)↔_
  omega
 ·simp only [reduceIte,Int.reduceEq,if_false,decide_eq_true_eq]
  show (stand (behindOf u) (aheadOf v)≤0∧stand (aheadOf v) high<0)↔_
  omega
 ·simp only [reduceIte,Int.reduceEq,if_false,decide_eq_true_eq]
  show (stand low (aheadOf v)≤0∧stand (aheadOf v) (behindOf u)<0)↔_
  omega
 ·simp only [reduceIte,Int.reduceEq,if_false,decide_eq_true_eq]
  show (stand low (aheadOf v)≤0∧stand (aheadOf v) (aheadOf u)<0)↔_
  omega
 ·simp only [reduceIte,Int.reduceEq,if_false,decide_eq_true_eq]
  show (stand (aheadOf u) (aheadOf v)≤0∧stand (aheadOf v) (behindOf u)<0)↔_
  omega
 ·simp only [reduceIte,Int.reduceEq,if_false,decide_eq_true_eq]
  show ¬ (stand (aheadOf u) (aheadOf v)≤0∧stand (aheadOf v) (behindOf u)<0)↔_
  omega
 ·simp only [reduceIte,Int.reduceEq,if_false,Bool.and_eq_true,decide_eq_true_eq]
  show (stand (aheadOf u) (aheadOf v)≤0∧stand (aheadOf v) (endCut (caretV u))<0)↔_
  rw [t1]
  exact and_congr_left fun _=>by omega
 ·simp only [reduceIte,Int.reduceEq,if_false,Bool.and_eq_true,decide_eq_true_eq]
  show (stand (aheadOf u) (aheadOf v)≤0∧stand (aheadOf v) (endCut (tildeV u))<0)↔_
  rw [t2]
  exact and_congr_left fun _=>by omega
mutual
def inV:Rng→Ver→Bool
 | .mk k u l,v=>if k=9 then allV l v else if k=10 then anyV l v else if k=11 then notV l v else kindV k u v
def allV:List Rng→Ver→Bool
 | [],_=>true
 | r :: rs,v=>inV r v && allV rs v
def anyV:List Rng→Ver→Bool
 | [],_=>false
 | r :: rs,v=>inV r v || anyV rs v
def notV:List Rng→Ver→Bool
 | [],_=>true
 | r :: _,v=>!inV r v
end
theorem inV_eq (k:Int) (u:Ver) (l:List Rng) (v:Ver):inV (.mk k u l) v=if k=9 then allV l v else if k=10 then anyV l v else if k=11 then notV l v else kindV k u v:=by rw [inV]
theorem allV_cons (r:Rng) (rs:List Rng) (v:Ver):allV (r :: rs) v=(inV r v && allV rs v):=by rw [allV]
theorem anyV_cons (r:Rng) (rs:List Rng) (v:Ver):anyV (r :: rs) v=(inV r v || anyV rs v):=by rw [anyV]
theorem allV_iff {v:Ver}:∀ {l:List Rng},allV l v=true↔∀ x ∈ l,inV x v=true
 | []=>by rw [allV]; simp
 | r :: rs=>by rw [allV_cons,Bool.and_eq_true,allV_iff]; simp
theorem anyV_iff {v:Ver}:∀ {l:List Rng},anyV l v=true↔∃ x ∈ l,inV x v=true
 | []=>by rw [anyV]; simp
 | r :: rs=>by rw [anyV_cons,Bool.or_eq_true,anyV_iff]; simp
theorem inC_inV {v:Ver} (hv:goodV v=true):∀ (n:Nat) (r:Rng),SizeOf.sizeOf r≤n→∀ d,goodR r d=true→(inC r (aheadOf v)↔inV r v=true)
 | 0,r,h,_,_=>by obtain ⟨k,u,l⟩:=r; simp at h
 | n+1,.mk k u l,h,d,hg=>by
  have z:inOne ⟨low,high⟩ (aheadOf v):=ahead_in (ahead_right hv)
  have IH:∀ x ∈ l,(inC x (aheadOf v)↔inV x v=true):=fun x hx=>by
   obtain ⟨_,h2,_⟩:=Range.good_cases hg
   exact inC_inV hv n x (by have:=Range.size_mem (kind:=k) (v:=u) hx; omega) _ (Range.goodL_mem h2 hx)
  obtain ⟨_,_,h3⟩:=Range.good_cases hg
  rw [inV_eq]
  rcases h3 with ⟨a,b,_,rfl⟩ | ⟨_,⟨b,rfl⟩ | ⟨b,_⟩ | ⟨b,y,rfl⟩⟩
  ·rw [inC_ver (by omega) b,if_neg (by omega),if_neg (by omega),if_neg (by omega),← inK_iff a b u hv]
   exact ⟨fun g=>g.2,fun g=>⟨z,g⟩⟩
  ·subst b
   rw [inC_ver (by omega) (by omega)]
   exact ⟨fun _=>rfl,fun _=>⟨z,z⟩⟩
  ·rcases b with rfl | rfl
   ·rw [inC_and,if_pos rfl,allV_iff]
    exact ⟨fun g x hx=>(IH x hx).1 (g.2 x hx),fun g=>⟨z,fun x hx=>(IH x hx).2 (g x hx)⟩⟩
   ·rw [inC_or,if_neg (by omega),if_pos rfl,anyV_iff]
    exact ⟨fun ⟨x,hx,g⟩=>⟨x,hx,(IH x hx).1 g⟩,fun ⟨x,hx,g⟩=>⟨x,hx,(IH x hx).2 g⟩⟩
  ·subst b
   have hy:=IH y (List.mem_singleton.2 rfl)
   rw [inC_not,if_neg (by omega),if_neg (by omega),if_pos rfl,notV,Bool.not_eq_true',← Bool.not_eq_true,← hy]
   exact ⟨fun g=>g.2,fun g=>⟨z,g⟩⟩
theorem set_has {r:Rng} {d:Nat} {o:List Sp} {v:Ver} (h:SetOf r o) (hg:goodR r d=true) (hv:goodV v=true):hasV o v=inV r v:=by
 rw [Bool.eq_iff_iff,hasV_iff h.1.rights (ahead_right hv),h.2]
 exact inC_inV hv _ r (Nat.le_refl _) d hg
end Go.Proofs.YtneilnibghhgmaaGreatDoor.Nrm
namespace Go.Proofs.YtneilnibghhgmaaGreatDoor.Nrm
open Go.RowKit Num Ident Semver Prec Span
open Range (Rng noRng goodR goodL fits wt wtL)

def few (kind:Int) (l:List Rng):Rng:=if l.length=0 then noRng else if l.length=1 then l.getD 0 noRng else .mk kind noVer l




theorem wtL_append:∀ a b:List Rng,wtL (a ++ b)=wtL a+wtL b
 | [],b=>by simp [wtL]
 | x :: a,b=>by rw [List.cons_append,Range.wtL_cons,Range.wtL_cons,wtL_append a b]; omega
end Go.Proofs.YtneilnibghhgmaaGreatDoor.Nrm
namespace Go.Proofs.YtneilnibghhgmaaGreatDoor.Nrm
open Go.RowKit Num Ident Semver Prec Span
theorem ncut_any (k:Int) (v:Ver) (A:Option Addr) (c:Nat) (B:Option Addr) (d:Nat) (w:World) :
  Calls Tryz.prog 179 #[.int .i64 k,.agg #[v.a,v.b,v.c,.slice A v.pre.length c,.slice B v.build.length d]] w fun e w'=>e=.returned (.agg #[.int .i64 k,v.a,v.b,v.c,.slice A v.pre.length c,.slice none 0 0])∧Below w.heap.size w w':=by
 go_enter Tryz.func179,Tryz.ntmps179
 go_wp2
 refine bodyPost_ret (v:=.agg #[.int .i64 k,v.a,v.b,v.c,.slice A v.pre.length c,.slice none 0 0]) (by simp [results,Tryz.results179,go_sem]) rfl ?_
 exact ⟨rfl,((Below.refl _ _).alloc (Nat.le_refl _) _).alloc (by simp) _⟩
theorem nend_no (v:Ver) (A:Option Addr) (c:Nat) (B:Option Addr) (d:Nat) (w:World) :
  Calls Tryz.prog 181 #[.agg #[v.a,v.b,v.c,.slice A v.pre.length c,.slice B v.build.length d],.bool false] w fun e w'=>e=.returned (.agg #[.int .i64 3,.int .u64 0,.int .u64 0,.int .u64 0,.slice none 0 0,.slice none 0 0])∧Below w.heap.size w w':=by
 go_enter Tryz.func181,Tryz.ntmps181
 go_wp2
 refine bodyPost_ret (v:=.agg #[.int .i64 3,.int .u64 0,.int .u64 0,.int .u64 0,.slice none 0 0,.slice none 0 0]) (by simp [results,Tryz.results181,go_sem]) rfl ?_
 exact ⟨rfl,((Below.refl _ _).alloc (Nat.le_refl _) _).alloc (by simp) _⟩
theorem nend_yes (v:Ver) (A:Option Addr) (c:Nat) (B:Option Addr) (d:Nat) (w:World) :
  Calls Tryz.prog 181 #[.agg #[v.a,v.b,v.c,.slice A v.pre.length c,.slice B v.build.length d],.bool true] w fun e w'=>e=.returned (.agg #[.int .i64 1,v.a,v.b,v.c,.slice A v.pre.length c,.slice none 0 0])∧Below w.heap.size w w':=by
 have HB0:Hid (Below w.heap.size w ((w.alloc (v,A,c,B,d)).alloc true)):=((Below.refl _ _).alloc (Nat.le_refl _) _).alloc (by simp) _
 have J0:Hid (At6B ((w.alloc (v,A,c,B,d)).alloc true) (w.heap.size+1) (.int .i64 0) (.int .u64 0) (.int .u64 0) (.int .u64 0) (.slice none 0 0) (.slice none 0 0)):=by
  have:=At6B.new (w.alloc (v,A,c,B,d)) 161 (.int .i64 0) (.int .u64 0) (.int .u64 0) (.int .u64 0) (.slice none 0 0) (.slice none 0 0)
  rw [size_alloc] at this; exact this
 go_enter Tryz.func181,Tryz.ntmps181
 go_wp2_with fail
 generalize ((w.alloc (v,A,c,B,d)).alloc true)=W at HB0 J0 ⊢
 refine (ncut_any 1 v A c B d W).mono ?_
 rintro e w1 ⟨rfl,hb⟩
 have B1:=Lib.hid (HB0.out.trans (hb.mono HB0.out.size))
 have J1:=Lib.hid (J0.out.kept hb J0.out.1)
 clear hb J0 HB0
 have K3:=Lib.hid (J1.out.set6 (.int .i64 1) v.a v.b v.c (.slice A v.pre.length c) (.slice none 0 0))
 have B3:=Lib.hid (below_set6 B1.out (b:=w.heap.size+1) (by omega) (.int .i64 1) v.a v.b v.c (.slice A v.pre.length c) (.slice none 0 0))
 obtain ⟨z1,z2,y0,y1,y2,y3,y4,y5⟩:=J1.out
 go_wp2
 change bodyPost _ _ _ _ _ (Span.set6 w1 (w.heap.size+1) (.int .i64 1) v.a v.b v.c (.slice A v.pre.length c) (.slice none 0 0))
 generalize Span.set6 w1 (w.heap.size+1) (.int .i64 1) v.a v.b v.c (.slice A v.pre.length c) (.slice none 0 0)=W5 at K3 B3 ⊢
 clear z1 z2 y0 y1 y2 y3 y4 y5
 obtain ⟨z1,z2,y0,y1,y2,y3,y4,y5⟩:=K3.out
 exact bodyPost_ret (v:=.agg #[.int .i64 1,v.a,v.b,v.c,.slice A v.pre.length c,.slice none 0 0]) (by simp [results,Tryz.results181,go_sem,y0,y1,y2,y3,y4,y5]) rfl ⟨rfl,B3.out⟩
theorem between_any (x y:RCut) (w:World) (hx:Span.Lies w x) (hy:Span.Lies w y) :
  Calls Tryz.prog 180 #[.agg #[x.kind,x.v.a,x.v.b,x.v.c,.slice x.A x.v.pre.length x.c,.slice x.B x.v.build.length x.d],.agg #[y.kind,y.v.a,y.v.b,y.v.c,.slice y.A y.v.pre.length y.c,.slice y.B y.v.build.length y.d]] w (SetIn w 1 (NormalOf [⟨x.cut,y.cut⟩])):=by
 have HB0:Hid (Below w.heap.size w ((w.alloc x).alloc y)):=((Below.refl _ _).alloc (Nat.le_refl _) _).alloc (by simp) _
 have HS0:Hid (LiesS ((w.alloc x).alloc y) ⟨x,y⟩):=⟨hx.kept HB0.out,hy.kept HB0.out⟩
 clear hx hy
 go_enter Tryz.func180,Tryz.ntmps180
 go_upto_region 1 with (fail)
 have X0:=At6B.new w 161 x.kind x.v.a x.v.b x.v.c (.slice x.A x.v.pre.length x.c) (.slice x.B x.v.build.length x.d)
 have X1:Hid (At6B ((w.alloc x).alloc y) w.heap.size x.kind x.v.a x.v.b x.v.c (.slice x.A x.v.pre.length x.c) (.slice x.B x.v.build.length x.d)):=X0.kept ((Below.refl _ _).alloc (Nat.le_refl _) _) X0.1
 have Y1:Hid (At6B ((w.alloc x).alloc y) (w.heap.size+1) y.kind y.v.a y.v.b y.v.c (.slice y.A y.v.pre.length y.c) (.slice y.B y.v.build.length y.d)):=by
  have:=At6B.new (w.alloc x) 161 y.kind y.v.a y.v.b y.v.c (.slice y.A y.v.pre.length y.c) (.slice y.B y.v.build.length y.d)
  rw [size_alloc] at this; exact this
 clear X0
 generalize ((w.alloc x).alloc y)=W at HB0 HS0 X1 Y1 ⊢
 obtain ⟨a1,a2,x0,x1,x2,x3,x4,x5⟩:=X1.out
 obtain ⟨b1,b2,y0,y1,y2,y3,y4,y5⟩:=Y1.out
 have R1:=Lib.hid (SpRow.one W ⟨x,y⟩ HS0.out)
 have B1:Hid (Below w.heap.size w (W.alloc (.cells (RSp.mk x y).vals.toArray 164))):=HB0.out.alloc HB0.out.size _
 go_wp2_with fail
 refine (normal_in (some ⟨W.heap.size,0,none⟩) 1 1 [⟨x,y⟩] _ R1.out (by omega)).mono ?_
 intro e w3 h3
 have HS:=Lib.hid (h3.mono B1.out)
 obtain ⟨A3,n3,c3,out,rfl,q1,q2,q3,q4,q5,q6,q7⟩:=HS.out
 clear h3
 go_wp2
 go_ret
 exact HS.out
end Go.Proofs.YtneilnibghhgmaaGreatDoor.Nrm
