/-
  What the theorem of the last text needs of these: NmMath, MoSteps, NmPlain. Conditions: as each theorem states.
-/
import Derived.Test.YtgakcdcfblgagaaGreatDoorRoA1
import Derived.Test.YtgakcdcfblgagaaGreatDoorRoA11
import Derived.Test.YtgakcdcfblgagaaGreatDoorRoA13
import Derived.Test.YtgakcdcfblgagaaGreatDoorRoA19
set_option maxRecDepth 100000
set_option maxHeartbeats 25600000
namespace Go.Proofs.YtgakcdcfblgagaaGreatDoor.Nrm
open Go.RowKit Num Ident Semver Prec Span
open Range (Rng noRng goodR goodL fits)

theorem bytes_eq:∀ {a b:List UInt8},Lib.compareBytes a b=0→a=b
 | [],[],_=>rfl
 | [],y :: b,h=>by simp [Lib.compareBytes] at h
 | x :: a,[],h=>by simp [Lib.compareBytes] at h
 | x :: a,y :: b,h=>by
  unfold Lib.compareBytes at h
  simp only [UInt8.lt_iff_toNat_lt] at h
  by_cases h1:x.toNat<y.toNat
  ·rw [if_pos h1] at h; omega
  ·by_cases h2:y.toNat<x.toNat
   ·rw [if_neg h1,if_pos h2] at h; omega
   ·rw [if_neg h1,if_neg h2] at h
    have e:x=y:=UInt8.toNat_inj.1 (by omega)
    rw [e,bytes_eq h]
theorem two_digits {m p q r s:Nat} (hr:r<m) (hs:s<m) (h:p * m+r=q * m+s):p=q∧r=s:=by
 have e1:(p * m+r) / m=p:=by rw [Nat.mul_comm,Nat.mul_add_div (by omega),Nat.div_eq_of_lt hr]; rfl
 have e2:(q * m+s) / m=q:=by rw [Nat.mul_comm,Nat.mul_add_div (by omega),Nat.div_eq_of_lt hs]; rfl
 have e3:p=q:=by rw [← e1,h,e2]
 subst e3
 exact ⟨rfl,by omega⟩
theorem dig_eq:∀ {a b:List UInt8},AllDig a→AllDig b→a.length=b.length→val a=val b→a=b
 | [],[],_,_,_,_=>rfl
 | [],y :: b,_,_,h,_=>by simp at h
 | x :: a,[],_,_,h,_=>by simp at h
 | x :: a,y :: b,ha,hb,hl,hv=>by
  have ha':=allDig_cons.1 ha
  have hb':=allDig_cons.1 hb
  have hl':a.length=b.length:=by simpa using hl
  rw [val_cons,val_cons,hl'] at hv
  have h1:=val_lt ha'.2
  rw [hl'] at h1
  obtain ⟨e1,e2⟩:=two_digits h1 (val_lt hb'.2) hv
  have hx:=(isDig_iff x).1 ha'.1
  have hy:=(isDig_iff y).1 hb'.1
  have e:x=y:=UInt8.toNat_inj.1 (by omega)
  rw [e,dig_eq ha'.2 hb'.2 hl' e2]
theorem id_eq {a b:List UInt8} (h:cmpId a b=0):a=b:=by
 unfold cmpId at h
 by_cases ha:numeric a=true
 ·rw [if_pos ha] at h
  by_cases hb:numeric b=true
  ·rw [if_pos hb] at h
   by_cases hv:ordN (val a) (val b)=0
   ·rw [if_pos hv] at h
    have da:=all_of_run ((numeric_iff a).1 ha).2
    have db:=all_of_run ((numeric_iff b).1 hb).2
    exact dig_eq da db ((ordN_zero_iff _ _).1 h) ((ordN_zero_iff _ _).1 hv)
   ·rw [if_neg hv] at h; exact absurd h hv
  ·rw [if_neg hb] at h; omega
 ·rw [if_neg ha] at h
  by_cases hb:numeric b=true
  ·rw [if_pos hb] at h; omega
  ·rw [if_neg hb] at h; exact bytes_eq h
theorem rows_eq:∀ {r s:List (List UInt8)},cmpRows r s=0→r=s
 | [],s,h=>by
  rw [cmpRows_nil] at h
  have:=(ordN_zero_iff _ _).1 h
  exact (List.eq_nil_of_length_eq_zero this.symm).symm
 | a :: r,[],h=>by
  rw [cmpRows_nil'] at h
  have:=(ordN_zero_iff _ _).1 h
  simp at this
 | a :: r,b :: s,h=>by
  by_cases hi:cmpId a b=0
  ·rw [cmpRows_same hi] at h
   rw [id_eq hi,rows_eq h]
  ·rw [cmpRows_diff hi] at h; exact absurd h hi
theorem pre_eq {x y:List (List UInt8)} (h:cmpPre x y=0):x=y:=by
 unfold cmpPre lex at h
 by_cases h0:ordN (noneN x) (noneN y)=0
 ·rw [if_pos h0] at h; exact rows_eq h
 ·rw [if_neg h0] at h; exact absurd h h0
theorem core_eq {u v:Ver} (h:cmpCore u v=0):u.a=v.a∧u.b=v.b∧u.c=v.c:=by
 by_cases h1:u.a=v.a
 ·by_cases h2:u.b=v.b
  ·rw [cmpCore_3 h1 h2] at h; exact ⟨h1,h2,(ordN_zero_iff _ _).1 h⟩
  ·rw [cmpCore_2 h1 h2] at h; exact absurd ((ordN_zero_iff _ _).1 h) h2
 ·rw [cmpCore_1 h1] at h; exact absurd ((ordN_zero_iff _ _).1 h) h1
theorem ver_eq {u v:Ver} (h:cmpV u v=0):u.a=v.a∧u.b=v.b∧u.c=v.c∧u.pre=v.pre:=by
 unfold cmpV lex at h
 by_cases h0:cmpCore u v=0
 ·rw [if_pos h0] at h
  obtain ⟨a,b,c⟩:=core_eq h0
  exact ⟨a,b,c,pre_eq h⟩
 ·rw [if_neg h0] at h; exact absurd h h0

def endCut (o:Option Ver):Cut:=match o with
 | none=>high
 | some e=>⟨1,e⟩
def loOf (k:Int) (v:Ver):Cut:=if k=1∨k=5∨k=7∨k=8 then aheadOf v else if k=2 then behindOf v else low
def hiOf (k:Int) (v:Ver):Cut:=if k=3∨k=5 then behindOf v else if k=4 then aheadOf v else if k=7 then endCut (caretV v) else if k=8 then endCut (tildeV v) else high
def inK (k:Int) (v:Ver) (c:Cut):Prop:=if k=6 then ¬ inOne ⟨aheadOf v,behindOf v⟩ c else inOne ⟨loOf k v,hiOf k v⟩ c
mutual
def inC:Rng→Cut→Prop
 | .mk k v l,c=>inOne ⟨low,high⟩ c∧(if k=9 then allC l c else if k=10 then anyC l c else if k=11 then ¬ headC l c else inK k v c)
def allC:List Rng→Cut→Prop
 | [],_=>True
 | r :: rs,c=>inC r c∧allC rs c
def anyC:List Rng→Cut→Prop
 | [],_=>False
 | r :: rs,c=>inC r c∨anyC rs c
def headC:List Rng→Cut→Prop
 | [],_=>False
 | r :: _,c=>inC r c
end
theorem inC_eq (k:Int) (v:Ver) (l:List Rng) (c:Cut):inC (.mk k v l) c=(inOne ⟨low,high⟩ c∧(if k=9 then allC l c else if k=10 then anyC l c else if k=11 then ¬ headC l c else inK k v c)):=by rw [inC]
theorem allC_iff {c:Cut}:∀ {l:List Rng},allC l c↔∀ x ∈ l,inC x c
 | []=>by rw [allC]; simp
 | r :: rs=>by rw [allC,allC_iff]; simp
theorem anyC_iff {c:Cut}:∀ {l:List Rng},anyC l c↔∃ x ∈ l,inC x c
 | []=>by rw [anyC]; simp
 | r :: rs=>by rw [anyC,anyC_iff]; simp
theorem headC_one (r:Rng) (c:Cut):headC [r] c↔inC r c:=by rw [headC]
theorem inC_all {r:Rng} {c:Cut} (h:inC r c):inOne ⟨low,high⟩ c:=by
 obtain ⟨k,v,l⟩:=r
 rw [inC_eq] at h; exact h.1
theorem inC_and (v:Ver) (l:List Rng) (c:Cut):inC (.mk 9 v l) c↔inOne ⟨low,high⟩ c∧∀ x ∈ l,inC x c:=by rw [inC_eq,if_pos rfl,allC_iff]
theorem inC_or (v:Ver) (l:List Rng) (c:Cut):inC (.mk 10 v l) c↔∃ x ∈ l,inC x c:=by
 rw [inC_eq,if_neg (by omega),if_pos rfl,anyC_iff]
 exact ⟨fun h=>h.2,fun ⟨x,hx,h⟩=>⟨inC_all h,x,hx,h⟩⟩
theorem inC_not (v:Ver) (r:Rng) (c:Cut):inC (.mk 11 v [r]) c↔inOne ⟨low,high⟩ c∧¬ inC r c:=by
 rw [inC_eq,if_neg (by omega),if_neg (by omega),if_pos rfl,headC_one]
theorem inC_ver {k:Int} (h1:0≤k) (h2:k≤8) (v:Ver) (l:List Rng) (c:Cut):inC (.mk k v l) c↔inOne ⟨low,high⟩ c∧inK k v c:=by
 rw [inC_eq,if_neg (by omega),if_neg (by omega),if_neg (by omega)]
theorem good_bare {v:Ver} (h:goodV v=true):goodV (bare v)=true:=by
 unfold goodV bare at *
 rw [Bool.and_eq_true,Bool.and_eq_true] at h ⊢
 exact ⟨h.1,h.2.1,rfl⟩
theorem ahead_right {v:Ver} (h:goodV v=true):Span.right (aheadOf v)=true:=by
 rw [right_ver (.inl rfl),Bool.and_eq_true,decide_eq_true_eq]
 exact ⟨good_bare h,rfl⟩
theorem end_good {v e:Ver} {i:Nat} (hv:goodV v=true) (h:endV v.a v.b v.c i=some e):goodV e=true∧e.build=[]:=by
 unfold goodV at hv
 rw [Bool.and_eq_true] at hv
 have hh:=of_decide_eq_true hv.1
 have key:∀ x y z,x≤maxField→y≤maxField→z≤maxField→goodV (firstV x y z)=true∧(firstV x y z).build=[]:=fun x y z h1 h2 h3=>by
  refine ⟨?_,rfl⟩
  unfold goodV
  rw [Bool.and_eq_true]
  exact ⟨decide_eq_true ⟨h1,h2,h3⟩,show (goodFrom true [[48]] 0 && goodFrom false [] 0)=true by decide⟩
 have hm:maxField=9223372036854775807:=rfl
 unfold endV at h
 split at h
 ·split at h
  ·cases h
  ·injection h with h; subst h; exact key _ _ _ (by omega) (Nat.zero_le _) (Nat.zero_le _)
 ·split at h
  ·split at h
   ·cases h
   ·injection h with h; subst h; exact key _ _ _ hh.1 (by omega) (Nat.zero_le _)
  ·split at h
   ·cases h
   ·injection h with h; subst h; exact key _ _ _ hh.1 hh.2.1 (by omega)
theorem endCut_right {v:Ver} {i:Nat} (hv:goodV v=true):Span.right (endCut (endV v.a v.b v.c i))=true∧stand (aheadOf v) (endCut (endV v.a v.b v.c i))<0:=by
 cases h:endV v.a v.b v.c i with
 | none =>
  refine ⟨high_right,?_⟩
  exact lt_le (ahead_behind v) (Int.le_of_lt (behind_high v))
 | some e =>
  obtain ⟨h1,h2⟩:=end_good hv h
  refine ⟨?_,?_⟩
  ·show Span.right ⟨1,e⟩=true
   rw [right_ver (.inl rfl),Bool.and_eq_true,decide_eq_true_eq]
   exact ⟨h1,by show e.build.length=0; rw [h2]; rfl⟩
  ·have h3:=end_ahead h
   show stand (aheadOf v) ⟨1,e⟩<0
   have h4:cmpV (bare v) e=-1:=h3
   unfold stand
   rw [if_pos ⟨rfl,rfl,by show cmpV (bare v) e≠0; rw [h4]; decide⟩]
   show cmpV (bare v) e<0
   rw [h4]; decide
theorem lohi {k:Int} {v:Ver} (hk:k=0∨goodV v=true):Span.right (loOf k v)=true∧Span.right (hiOf k v)=true∧stand (loOf k v) (hiOf k v)<0:=by
 rcases hk with rfl | hv
 ·exact ⟨low_right,high_right,low_high⟩
 ·have ha:=ahead_right hv
  have hb:=right_behind ha
  have e1:=ahead_behind v
  have e2:=behind_high v
  have e3:=low_ahead v
  unfold loOf hiOf
  by_cases h1:k=1
  ·subst h1; exact ⟨ha,high_right,lt_lt e1 e2⟩
  by_cases h2:k=2
  ·subst h2; exact ⟨hb,high_right,e2⟩
  by_cases h3:k=3
  ·subst h3; exact ⟨low_right,hb,lt_lt e3 e1⟩
  by_cases h4:k=4
  ·subst h4; exact ⟨low_right,ha,e3⟩
  by_cases h5:k=5
  ·subst h5; exact ⟨ha,hb,e1⟩
  by_cases h7:k=7
  ·subst h7; exact ⟨ha,(endCut_right hv).1,(endCut_right hv).2⟩
  by_cases h8:k=8
  ·subst h8; exact ⟨ha,(endCut_right hv).1,(endCut_right hv).2⟩
  rw [if_neg (by omega),if_neg (by omega),if_neg (by omega),if_neg (by omega),if_neg (by omega),if_neg (by omega)]
  exact ⟨low_right,high_right,low_high⟩
theorem within {s:Sp} {c:Cut} (h1:Span.right s.lo=true) (h2:Span.right s.hi=true) (h:inOne s c):inOne ⟨low,high⟩ c:=⟨le_le (low_le h1) h.1,lt_le h.2 (le_high h2)⟩

def SetOf (r:Rng) (o:List Sp):Prop:=Norm o∧∀ c,inS o c↔inC r c
def RestOf (r:Rng) (o:List Sp):Prop:=Norm o∧∀ c,inS o c↔inOne ⟨low,high⟩ c∧¬ inC r c
theorem inR_one {s:Sp} (h:Span.cnt s=true) (c:Cut):inR [s] c↔inOne s c :=
 ⟨fun ⟨x,hx,_,hi⟩=>by rw [List.mem_singleton] at hx; subst hx; exact hi,fun hi=>⟨s,List.mem_singleton.2 rfl,h,hi⟩⟩
theorem set_span {k:Int} {v:Ver} (h0:0≤k) (h8:k≤8) (h6:k≠6) (hk:k=0∨goodV v=true) (l:List Rng) {o:List Sp} (h:NormalOf [⟨loOf k v,hiOf k v⟩] o):SetOf (.mk k v l) o:=by
 obtain ⟨h1,h2,h3⟩:=lohi (k:=k) hk
 refine ⟨h.1,fun c=>?_⟩
 rw [h.2,inR_one ((cnt_iff _).2 ⟨h1,h2,h3⟩),inC_ver h0 h8]
 unfold inK
 rw [if_neg h6]
 exact ⟨fun g=>⟨within h1 h2 g,g⟩,fun g=>g.2⟩
theorem set_ne {v:Ver} (hv:goodV v=true) (l:List Rng) {n o:List Sp} (hn:NormalOf [⟨aheadOf v,behindOf v⟩] n) (h:NotOf n o):SetOf (.mk 6 v l) o:=by
 have ha:=ahead_right hv
 refine ⟨h.1,fun c=>?_⟩
 rw [h.2,hn.1.inR,hn.2,inR_one ((cnt_iff _).2 ⟨ha,right_behind ha,ahead_behind v⟩),inC_ver (by omega) (by omega)]
 unfold inK
 rw [if_pos rfl]
theorem rest_of {r:Rng} {n o:List Sp} (hn:SetOf r n) (h:NotOf n o):RestOf r o:=⟨h.1,fun c=>by rw [h.2,hn.1.inR,hn.2]⟩
theorem set_not {v:Ver} {r:Rng} {o:List Sp} (h:RestOf r o):SetOf (.mk 11 v [r]) o:=⟨h.1,fun c=>by rw [h.2,inC_not]⟩
theorem set_or {v:Ver} {l:List Rng} {a o:List Sp} (ha:∀ c,inR a c↔∃ x ∈ l,inC x c) (h:NormalOf a o):SetOf (.mk 10 v l) o:=⟨h.1,fun c=>by rw [h.2,ha,inC_or]⟩
theorem set_and {v:Ver} {l:List Rng} {a o:List Sp} (ha:∀ c,inR a c↔∃ x ∈ l,inOne ⟨low,high⟩ c∧¬ inC x c) (h:NotOf a o):SetOf (.mk 9 v l) o:=⟨h.1,fun c=>by
 rw [h.2,ha,inC_and]
 refine and_congr_right fun hc=>⟨fun k x hx=>Classical.byContradiction fun hn=>k ⟨x,hx,hc,hn⟩,?_⟩
 rintro k ⟨x,hx,_,hn⟩
 exact hn (k x hx)⟩
theorem inR_append (a b:List Sp) (c:Cut):inR (a ++ b) c↔inR a c∨inR b c:=by
 constructor
 ·rintro ⟨s,hs,h⟩
  rcases List.mem_append.1 hs with hs | hs
  ·exact .inl ⟨s,hs,h⟩
  ·exact .inr ⟨s,hs,h⟩
 ·rintro (⟨s,hs,h⟩ | ⟨s,hs,h⟩)
  ·exact ⟨s,List.mem_append_left _ hs,h⟩
  ·exact ⟨s,List.mem_append_right _ hs,h⟩

/-! What a version's range has, version by version. -/
theorem ahead_cmp (u v:Ver):stand (aheadOf u) (aheadOf v)=cmpV u v:=by
 unfold stand
 by_cases h:cmpV u v=0
 ·rw [if_neg (fun k=>k.2.2 h),h]; rfl
 ·rw [if_pos ⟨rfl,rfl,h⟩]; rfl
theorem behind_cmp (u v:Ver):stand (behindOf u) (aheadOf v)≤0↔cmpV u v<0:=by
 unfold stand
 by_cases h:cmpV u v=0
 ·rw [if_neg (fun k=>k.2.2 h),h]; simp [behindOf,aheadOf,ordI]
 ·rw [if_pos ⟨rfl,rfl,h⟩]
  show cmpV u v≤0↔cmpV u v<0
  omega
theorem cmp_behind (u v:Ver):stand (aheadOf v) (behindOf u)<0↔cmpV v u≤0:=by
 rw [show stand (aheadOf v) (behindOf u)=- stand (behindOf u) (aheadOf v) by have:=stand_flip (behindOf u) (aheadOf v); omega]
 have h1:=behind_cmp u v
 have h2:=cmpV_ordr.flip u v
 omega
def hereV (o:Option Ver) (v:Ver):Bool:=match o with
 | none=>true
 | some e=>decide (cmpV v e<0)
def kindV (k:Int) (u v:Ver):Bool :=
 if k=1 then decide (0≤cmpV v u) else if k=2 then decide (0<cmpV v u) else if k=3 then decide (cmpV v u≤0) else if k=4 then decide (cmpV v u<0)
 else if k=5 then decide (cmpV v u=0) else if k=6 then decide (cmpV v u≠0) else if k=7 then decide (0≤cmpV v u) && hereV (caretV u) v else if k=8 then decide (0≤cmpV v u) && hereV (tildeV u) v else true
theorem here_iff (u v:Ver) (i:Nat):stand (aheadOf v) (endCut (endV u.a u.b u.c i))<0↔hereV (endV u.a u.b u.c i) v=true:=by
 cases h:endV u.a u.b u.c i with
 | none=>exact ⟨fun _=>rfl,fun _=>lt_le (ahead_behind v) (Int.le_of_lt (behind_high v))⟩
 | some e =>
  show stand (aheadOf v) ⟨1,e⟩<0↔decide (cmpV v e<0)=true
  rw [decide_eq_true_eq]
  have e1:stand (aheadOf v) ⟨1,e⟩=cmpV v e:=by
   unfold stand
   by_cases h:cmpV v e=0
   ·rw [if_neg (fun k=>k.2.2 h),h]; rfl
   ·rw [if_pos ⟨rfl,rfl,h⟩]; rfl
  rw [e1]
theorem inK_iff {k:Int} (h1:1≤k) (h8:k≤8) (u:Ver) {v:Ver} (hv:goodV v=true):inK k u (aheadOf v)↔kindV k u v=true:=by
 have hr:=ahead_right hv
 have a1:=ahead_cmp u v
 have a2:=behind_cmp u v
 have a3:=cmp_behind u v
 have a4:=ahead_cmp v u
 have a5:=cmpV_ordr.flip v u
 have z1:stand low (aheadOf v)≤0:=Int.le_of_lt (low_ahead v)
 have z2:stand (aheadOf v) high<0:=lt_le (ahead_behind v) (Int.le_of_lt (behind_high v))
 have t1:stand (aheadOf v) (endCut (caretV u))<0↔hereV (caretV u) v=true:=here_iff u v _
 have t2:stand (aheadOf v) (endCut (tildeV u))<0↔hereV (tildeV u) v=true:=here_iff u v _
 unfold inK kindV
 rcases (show k=1∨k=2∨k=3∨k=4∨k=5∨k=6∨k=7∨k=8 by omega) with rfl | rfl | rfl | rfl | rfl | rfl | rfl | rfl
 ·simp only [reduceIte,Int.reduceEq,if_false,decide_eq_true_eq]
  show (stand (aheadOf u) (aheadOf v)≤0∧stand (aheadOf v) high<0)↔_
  omega
 ·simp only [reduceIte,Int.reduceEq,if_false,decide_eq_true_eq]
  show (stand (behindOf u) (aheadOf v)≤0∧stand (aheadOf v) high<0)↔_
  omega
 ·simp only [reduceIte,Int.reduceEq,if_false,decide_eq_true_eq]
  show (stand low (aheadOf v)≤0∧stand (aheadOf v) (behindOf u)<0)↔_
  omega
 ·simp only [reduceIte,Int.reduceEq,if_false,decide_eq_true_eq]
  show (stand low (aheadOf v)≤0∧stand (aheadOf v) (aheadOf u)<0)↔_
  omega
 ·simp only [reduceIte,Int.reduceEq,if_false,decide_eq_true_eq]
  show (stand (aheadOf u) (aheadOf v)≤0∧stand (aheadOf v) (behindOf u)<0)↔_
  omega
 ·simp only [reduceIte,Int.reduceEq,if_false,decide_eq_true_eq]
  show ¬ (stand (aheadOf u) (aheadOf v)≤0∧stand (aheadOf v) (behindOf u)<0)↔_
  omega
 ·simp only [reduceIte,Int.reduceEq,if_false,Bool.and_eq_true,decide_eq_true_eq]
  show (stand (aheadOf u) (aheadOf v)≤0∧stand (aheadOf v) (endCut (caretV u))<0)↔_
  rw [t1]
  exact and_congr_left fun _=>by omega
 ·simp only [reduceIte,Int.reduceEq,if_false,Bool.and_eq_true,decide_eq_true_eq]
  show (stand (aheadOf u) (aheadOf v)≤0∧stand (aheadOf v) (endCut (tildeV u))<0)↔_
  rw [t2]
  exact and_congr_left fun _=>by omega
mutual
def inV:Rng→Ver→Bool
 | .mk k u l,v=>if k=9 then allV l v else if k=10 then anyV l v else if k=11 then notV l v else kindV k u v
def allV:List Rng→Ver→Bool
 | [],_=>true
 | r :: rs,v=>inV r v && allV rs v
def anyV:List Rng→Ver→Bool
 | [],_=>false
 | r :: rs,v=>inV r v || anyV rs v
def notV:List Rng→Ver→Bool
 | [],_=>true
 | r :: _,v=>!inV r v
end
theorem inV_eq (k:Int) (u:Ver) (l:List Rng) (v:Ver):inV (.mk k u l) v=if k=9 then allV l v else if k=10 then anyV l v else if k=11 then notV l v else kindV k u v:=by rw [inV]
theorem allV_cons (r:Rng) (rs:List Rng) (v:Ver):allV (r :: rs) v=(inV r v && allV rs v):=by rw [allV]
theorem anyV_cons (r:Rng) (rs:List Rng) (v:Ver):anyV (r :: rs) v=(inV r v || anyV rs v):=by rw [anyV]
theorem allV_iff {v:Ver}:∀ {l:List Rng},allV l v=true↔∀ x ∈ l,inV x v=true
 | []=>by rw [allV]; simp
 | r :: rs=>by rw [allV_cons,Bool.and_eq_true,allV_iff]; simp
theorem anyV_iff {v:Ver}:∀ {l:List Rng},anyV l v=true↔∃ x ∈ l,inV x v=true
 | []=>by rw [anyV]; simp
 | r :: rs=>by rw [anyV_cons,Bool.or_eq_true,anyV_iff]; simp
theorem inC_inV {v:Ver} (hv:goodV v=true):∀ (n:Nat) (r:Rng),SizeOf.sizeOf r≤n→∀ d,goodR r d=true→(inC r (aheadOf v)↔inV r v=true)
 | 0,r,h,_,_=>by obtain ⟨k,u,l⟩:=r; simp at h
 | n+1,.mk k u l,h,d,hg=>by
  have z:inOne ⟨low,high⟩ (aheadOf v):=ahead_in (ahead_right hv)
  have IH:∀ x ∈ l,(inC x (aheadOf v)↔inV x v=true):=fun x hx=>by
   obtain ⟨_,h2,_⟩:=Range.good_cases hg
   exact inC_inV hv n x (by have:=Range.size_mem (kind:=k) (v:=u) hx; omega) _ (Range.goodL_mem h2 hx)
  obtain ⟨_,_,h3⟩:=Range.good_cases hg
  rw [inV_eq]
  rcases h3 with ⟨a,b,_,rfl⟩ | ⟨_,⟨b,rfl⟩ | ⟨b,_⟩ | ⟨b,y,rfl⟩⟩
  ·rw [inC_ver (by omega) b,if_neg (by omega),if_neg (by omega),if_neg (by omega),← inK_iff a b u hv]
   exact ⟨fun g=>g.2,fun g=>⟨z,g⟩⟩
  ·subst b
   rw [inC_ver (by omega) (by omega)]
   exact ⟨fun _=>rfl,fun _=>⟨z,z⟩⟩
  ·rcases b with rfl | rfl
   ·rw [inC_and,if_pos rfl,allV_iff]
    exact ⟨fun g x hx=>(IH x hx).1 (g.2 x hx),fun g=>⟨z,fun x hx=>(IH x hx).2 (g x hx)⟩⟩
   ·rw [inC_or,if_neg (by omega),if_pos rfl,anyV_iff]
    exact ⟨fun ⟨x,hx,g⟩=>⟨x,hx,(IH x hx).1 g⟩,fun ⟨x,hx,g⟩=>⟨x,hx,(IH x hx).2 g⟩⟩
  ·subst b
   have hy:=IH y (List.mem_singleton.2 rfl)
   rw [inC_not,if_neg (by omega),if_neg (by omega),if_pos rfl,notV,Bool.not_eq_true',← Bool.not_eq_true,← hy]
   exact ⟨fun g=>g.2,fun g=>⟨z,g⟩⟩
theorem set_has {r:Rng} {d:Nat} {o:List Sp} {v:Ver} (h:SetOf r o) (hg:goodR r d=true) (hv:goodV v=true):hasV o v=inV r v:=by
 rw [Bool.eq_iff_iff,hasV_iff h.1.rights (ahead_right hv),h.2]
 exact inC_inV hv _ r (Nat.le_refl _) d hg
end Go.Proofs.YtgakcdcfblgagaaGreatDoor.Nrm
namespace Go.Proofs.YtgakcdcfblgagaaGreatDoor.Copy
open Go.RowKit Num Ident Semver Fr
open Range (Rng noRng RV Lies RgRow CellsAt KeepS LtB InS FitV wt wtL)
open KR (KRow AtV)
open Nrm (tot totL)

theorem own_srow {w:World} {base:Nat} {A:Option Addr} {n c:Nat} {xs:List (List UInt8)} (h:w.ownsRow base 9 1 (.slice A n c) n (strs xs)):SRow w A n xs∧n≤c:=by
 obtain ⟨A',c',e,h1,h2⟩:=SRow.of_own h
 injection e with e1 _ e2
 subst e1
 subst e2
 exact ⟨h2,h1⟩
theorem own_txt {w:World} {base B:Nat} {A:Option Addr} {n c:Nat} {xs:List Value} (h:w.ownsRow base 9 1 (.slice A n c) n xs):InS (Txt w B) A n:=fun h0=>by
 rcases h.2 with ⟨e,h1⟩ | ⟨g,cp,cur,e,_,hh,_⟩
 ·omega
 ·injection e with e1 _ _
  exact ⟨g,0,e1,.inr ⟨cur,hh⟩⟩
theorem Cur.not {W:World} {B:Nat} {G:Ghost} {g:Nat} {rs:List Rng} {j:Nat} {x:RV} (h:Cur W B G g rs j x):Not W B g:=by
 obtain ⟨c,xs,_,h2,_⟩:=h.here
 exact own_not h2 (by decide)
def set5V (W:World) (g o:Nat) (v:Ver) (A:Option Addr) (c:Nat) (Bx:Option Addr) (d:Nat):World :=
 ((((W.setCell ⟨g,o+1,none⟩ v.a).setCell ⟨g,o+2,none⟩ v.b).setCell ⟨g,o+3,none⟩ v.c).setCell ⟨g,o+4,none⟩ (.slice A v.pre.length c)).setCell ⟨g,o+5,none⟩ (.slice Bx v.build.length d)
theorem ver_step {W1 W:World} {B:Nat} {G:Ghost} {v:Value} {T:List Td} (h:CopyAt W1 W B G v T) {g:Nat} {rs:List Rng} {j:Nat} {x:RV} (hc:Cur W B G g rs j x) {A:Option Addr} {c:Nat} {Bx:Option Addr} {d b1:Nat}
  (oA:W.ownsRow b1 9 1 (.slice A x.v.pre.length c) x.v.pre.length (strs x.v.pre)) (oB:W.ownsRow b1 9 1 (.slice Bx x.v.build.length d) x.v.build.length (strs x.v.build)) :
  CopyAt W1 (set5V W g (j * 7) x.v A c Bx d) B G v T∧Cur (set5V W g (j * 7) x.v A c Bx d) B G g rs j ⟨x.kind,x.v,A,c,Bx,d,x.L,x.n,x.e⟩:=by
 have k0:=hc.ok
 have rA:=own_srow oA
 have rB:=own_srow oB
 have k1:Ok1 W B G (rs.getD j noRng) ⟨x.kind,x.v,A,c,x.B,x.d,x.L,x.n,x.e⟩:=⟨k0.kind,k0.ver,rA.1,k0.build,own_txt oA,k0.ib,rA.2,k0.cb,k0.fit,k0.nil,k0.cap,k0.subs,k0.at_⟩
 have k2:Ok1 W B G (rs.getD j noRng) ⟨x.kind,x.v,A,c,Bx,d,x.L,x.n,x.e⟩:=⟨k0.kind,k0.ver,rA.1,rB.1,own_txt oA,own_txt oB,rA.2,rB.2,k0.fit,k0.nil,k0.cap,k0.subs,k0.at_⟩
 have hg:=hc.told
 unfold set5V
 have s1:=hc.store 1 (by omega) x.v.a x rfl k0
 have t1:=h.cur hg s1
 have m1:=k1.but (But.one W g (j * 7+1) x.v.a) hc.not
 have q1:=k2.but (But.one W g (j * 7+1) x.v.a) hc.not
 generalize W.setCell ⟨g,j * 7+1,none⟩ x.v.a=V1 at s1 t1 m1 q1 ⊢
 have s2:=s1.store 2 (by omega) x.v.b x rfl s1.ok
 have t2:=t1.cur hg s2
 have m2:=m1.but (But.one V1 g (j * 7+2) x.v.b) s1.not
 have q2:=q1.but (But.one V1 g (j * 7+2) x.v.b) s1.not
 generalize V1.setCell ⟨g,j * 7+2,none⟩ x.v.b=V2 at s2 t2 m2 q2 ⊢
 have s3:=s2.store 3 (by omega) x.v.c x rfl s2.ok
 have t3:=t2.cur hg s3
 have m3:=m2.but (But.one V2 g (j * 7+3) x.v.c) s2.not
 have q3:=q2.but (But.one V2 g (j * 7+3) x.v.c) s2.not
 generalize V2.setCell ⟨g,j * 7+3,none⟩ x.v.c=V3 at s3 t3 m3 q3 ⊢
 have s4:=s3.store 4 (by omega) (.slice A x.v.pre.length c) ⟨x.kind,x.v,A,c,x.B,x.d,x.L,x.n,x.e⟩ rfl m3
 have t4:=t3.cur hg s4
 have q4:=q3.but (But.one V3 g (j * 7+4) (.slice A x.v.pre.length c)) s3.not
 generalize V3.setCell ⟨g,j * 7+4,none⟩ (.slice A x.v.pre.length c)=V4 at s4 t4 q4 ⊢
 have s5:=s4.store 5 (by omega) (.slice Bx x.v.build.length d) ⟨x.kind,x.v,A,c,Bx,d,x.L,x.n,x.e⟩ rfl q4
 exact ⟨t4.cur hg s5,s5⟩
theorem Cur.more {W:World} {B:Nat} {G G':Ghost} {g:Nat} {rs:List Rng} {j:Nat} {x:RV} (h:Cur W B G g rs j x) (ht:Typed W B G') (hG:∀ k q,G k=some q→G' k=some q):Cur W B G' g rs j x:=by
 obtain ⟨c,xs,h1,h2,h3,h4⟩:=h.here
 exact ⟨ht,hG _ _ h.told,h.lt,c,xs,h1,h2,fun j hj=>(h3 j hj).more hG,h4⟩
theorem sub_step {W1 W:World} {B:Nat} {G:Ghost} {v:Value} {T:List Td} (h:CopyAt W1 W B G v T) {g:Nat} {rs:List Rng} {j:Nat} {x:RV} (hc:Cur W B G g rs j x) {A:Option Addr} {e b0:Nat} {xs:List RV}
  (ho:W.ownsRow b0 65 7 (.slice A x.n e) x.n (xs.flatMap RV.vals)) (hxs:xs.length=x.n) (hb:W1.heap.size≤b0) (hf:∀ k q,G k=some q→k<b0) (hk:∀ i,i<x.n→Ok1 W B G ((rs.getD j noRng).subs.getD i noRng) (xs.getD i default)) :
  ∃ G':Ghost,CopyAt W1 (W.setCell ⟨g,j * 7+6,none⟩ (.slice A x.n e)) B G' v T∧Cur (W.setCell ⟨g,j * 7+6,none⟩ (.slice A x.n e)) B G' g rs j ⟨x.kind,x.v,x.A,x.c,x.B,x.d,A,x.n,e⟩∧(∀ k q,G k=some q→G' k=some q)∧TdOk G' ⟨A,e,(rs.getD j noRng).subs⟩:=by
 have k0:=hc.ok
 have hg:=hc.told
 have hsub:=k0.subs
 rcases ho.2 with ⟨e1,h0⟩ | ⟨g',cp,cur,e1,hg',hh,hn,_⟩
 ·injection e1 with e1 _ e2
  subst e1
  subst e2
  have hnil:(rs.getD j noRng).subs=[]:=List.eq_nil_of_length_eq_zero (by omega)
  have k1:Ok1 W B G (rs.getD j noRng) ⟨x.kind,x.v,x.A,x.c,x.B,x.d,none,x.n,0⟩:=⟨k0.kind,k0.ver,k0.pre,k0.build,k0.ip,k0.ib,k0.cp,k0.cb,k0.fit,fun _=>rfl,by show x.n≤0; omega,hsub,.inl ⟨fun _=>default,hsub,fun h=>absurd h (by show ¬ 0<x.n; omega),fun i hi=>absurd hi (by show ¬ i<x.n; omega)⟩⟩
  have s:=hc.store 6 (by omega) (.slice none x.n 0) ⟨x.kind,x.v,x.A,x.c,x.B,x.d,none,x.n,0⟩ rfl k1
  exact ⟨G,h.cur hg s,s,fun _ _ q=>q,.inl hnil⟩
 ·injection e1 with e1 _ e2
  subst e1
  subst e2
  have hGn:G g'=none:=by
   cases hq:G g' with
   | none=>rfl
   | some q=>have:=hf g' q hq; omega
  have own:W.ownsRow B 65 7 (.slice (some ⟨g',0,none⟩) (rs.getD j noRng).subs.length e) (rs.getD j noRng).subs.length (xs.flatMap RV.vals):=by rw [hsub]; exact ho.mono (Nat.le_trans h.le hb)
  have hsm:∀ q ∈ (rs.getD j noRng).subs,tot q≤12:=fun q hq=>by
   have h1:=h.small g rs hg (rs.getD j noRng) (by rw [List.getD_eq_getElem?_getD,List.getElem?_eq_getElem hc.lt]; exact List.getElem_mem _)
   rw [Nrm.tot_eq] at h1
   have:=tot_mem hq
   omega
  have ha:=h.add hGn (Nat.le_trans hb hg') (hxs.trans hsub.symm) own (fun i hi=>hk i (by omega)) hsm
  have hm:∀ k q,G k=some q→(if k=g' then some (rs.getD j noRng).subs else G k)=some q:=fun k q hq=>by
   rw [if_neg (fun e=>by rw [e,hGn] at hq; cases hq)]; exact hq
  refine ⟨fun k=>if k=g' then some (rs.getD j noRng).subs else G k,?_⟩
  have hG':(fun k=>if k=g' then some (rs.getD j noRng).subs else G k) g'=some (rs.getD j noRng).subs:=by
   show (if g'=g' then _ else _)=_
   rw [if_pos rfl]
  have hc2:=hc.more ha.typed hm
  have k1:Ok1 W B (fun k=>if k=g' then some (rs.getD j noRng).subs else G k) (rs.getD j noRng) ⟨x.kind,x.v,x.A,x.c,x.B,x.d,some ⟨g',0,none⟩,x.n,e⟩ :=
   ⟨k0.kind,k0.ver,k0.pre,k0.build,k0.ip,k0.ib,k0.cp,k0.cb,k0.fit,(fun q=>by cases q),hn,hsub,.inr ⟨g',rfl,hG'⟩⟩
  have s:=hc2.store 6 (by omega) (.slice (some ⟨g',0,none⟩) x.n e) ⟨x.kind,x.v,x.A,x.c,x.B,x.d,some ⟨g',0,none⟩,x.n,e⟩ rfl k1
  exact ⟨ha.cur (hm g rs hg) s,s,hm,.inr ⟨g',rfl,hG'⟩⟩
theorem infoTd:(Tryz.prog.info? 63).map (fun i=>(i.zero,i.size,i.bytes))=some (some (.slice none 0 0),1,24):=by kernel_rfl
theorem push {W1 W:World} {B:Nat} {G:Ghost} {v:Value} {T:List Td} (h:CopyAt W1 W B G v T) {t:Td} (ht:TdOk G t) (hT:T.length≤1000) (ty:TypeId) :
  ∃ v' w',(Builtin.append_ #[236,236] ty #[v,.slice (some ⟨W.heap.size,0,none⟩) 1 1]).run Tryz.prog (W.alloc (.cells #[t.val] 63))=.ok v' w'∧CopyAt W1 w' B G v' (T ++ [t]):=by
 obtain ⟨i,hi,hz,hs,hby⟩:=info_parts infoTd
 have hb:Below W.heap.size W (W.alloc (.cells #[t.val] 63)):=(Below.refl _ _).alloc (Nat.le_refl _) _
 have h0:=h.below hb
 have hbase:W1.heap.size≤(W.alloc (.cells #[t.val] 63)).heap.size:=Nat.le_trans h.bel.size hb.size
 obtain ⟨v',w',h1,h2,h3,_⟩:=run_append_own (P:=Tryz.prog) (W.alloc (.cells #[t.val] 63)) W1.heap.size 236 ty 63 i (.slice none 0 0) 1 24 Tryz.underlying236 hi hz hs hby rfl (by omega) v T.length _ h0.own ⟨W.heap.size,0,none⟩ 1 1 [t.val]
  rfl (fun j u hu=>by
   have hj:j=0:=by have:=(List.getElem?_eq_some_iff.1 hu).1; simpa using this
   subst hj
   simp only [List.getElem?_cons_zero,Option.some.injEq] at hu
   subst hu
   simp [Addr.add,go_sem]) (fun u hu=>by rw [List.mem_singleton] at hu; rw [hu]; rfl) (by unfold maxLen; omega) (by omega) hbase
 refine ⟨v',w',h1,?_⟩
 have hbt:But (fun k=>v.ownBlock=some k) (W.alloc (.cells #[t.val] 63)) w':=But.of_grown h3 fun b e=>e
 have htyped:Typed w' B G:=by
  cases hv:v.ownBlock with
  | none =>
   rw [hv] at hbt
   exact h0.typed.below (hbt.below (fun k q=>by cases q) (Nat.le_refl _))
  | some tb =>
   rw [hv] at hbt
   obtain ⟨a1,a2⟩:=h0.apart hv
   exact h0.typed.but (hbt.mono fun k q=>by injection q with q; exact q.symm) a2 a1
 refine ⟨htyped,by rw [List.length_append,List.map_append]; exact h2,fun z hz=>?_,h.hi,h.small,h0.bel.trans (hbt.below (fun k q=>(h0.own.lt k q).1) hbase),h.le⟩
 rcases List.mem_append.1 hz with hz | hz
 ·exact h.ok z hz
 ·rw [List.mem_singleton] at hz; rw [hz]; exact ht
end Go.Proofs.YtgakcdcfblgagaaGreatDoor.Copy
namespace Go.Proofs.YtgakcdcfblgagaaGreatDoor.Nrm
open Go.RowKit Num Ident Semver Prec Span
open Range (Rng noRng goodR goodL fits wt wtL)

def few (kind:Int) (l:List Rng):Rng:=if l.length=0 then noRng else if l.length=1 then l.getD 0 noRng else .mk kind noVer l
def lastOf (l:List Sp):Sp:=l.getD (l.length - 1) default



theorem last_snoc (l:List Sp) (s:Sp):lastOf (l ++ [s])=s:=by unfold lastOf; simp

theorem wtL_append:∀ a b:List Rng,wtL (a ++ b)=wtL a+wtL b
 | [],b=>by simp [wtL]
 | x :: a,b=>by rw [List.cons_append,Range.wtL_cons,Range.wtL_cons,wtL_append a b]; omega
end Go.Proofs.YtgakcdcfblgagaaGreatDoor.Nrm
