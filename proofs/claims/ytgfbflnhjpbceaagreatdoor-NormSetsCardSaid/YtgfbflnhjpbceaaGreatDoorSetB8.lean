/-
  What the theorem of the last text needs of these: SpMath, SvParse, PrRefCmp. Conditions: as each theorem states.
-/
import Derived.Test.YtgfbflnhjpbceaaGreatDoorSetB1
import Derived.Test.YtgfbflnhjpbceaaGreatDoorSetB3
import Derived.Test.YtgfbflnhjpbceaaGreatDoorSetB4
import Derived.Test.YtgfbflnhjpbceaaGreatDoorSetB5
import Derived.Test.YtgfbflnhjpbceaaGreatDoorSetB6
import Derived.Deep.CutBlock
import Derived.Deep.DeepCutAuto
set_option maxRecDepth 100000
set_option maxHeartbeats 25600000
namespace Go.Proofs.YtgfbflnhjpbceaaGreatDoor.Span
open Go.RowKit Num Ident Semver Prec

structure Cut where
 kind:Int
 v:Ver
deriving DecidableEq
structure Sp where
 lo:Cut
 hi:Cut
deriving DecidableEq
def low:Cut:=⟨0,noVer⟩
def high:Cut:=⟨3,noVer⟩
instance:Inhabited Cut:=⟨low⟩
instance:Inhabited Sp:=⟨⟨low,low⟩⟩
def ofVer (c:Cut):Bool:=decide (c.kind=1∨c.kind=2)
theorem ofVer_iff (c:Cut):ofVer c=true↔c.kind=1∨c.kind=2:=by simp [ofVer]
theorem ofVer_no (c:Cut):ofVer c=false↔¬ (c.kind=1∨c.kind=2):=by rw [← ofVer_iff]; cases ofVer c <;> simp
def right (c:Cut):Bool:=if c.kind=0∨c.kind=3 then sameV c.v noVer else if c.kind=1∨c.kind=2 then goodV c.v && decide (c.v.build.length=0) else false
theorem right_ends {c:Cut} (h:c.kind=0∨c.kind=3):right c=sameV c.v noVer:=by unfold right; rw [if_pos h]
theorem right_ver {c:Cut} (h:c.kind=1∨c.kind=2):right c=(goodV c.v && decide (c.v.build.length=0)):=by unfold right; rw [if_neg (by omega),if_pos h]
theorem right_none {c:Cut} (h1:¬ (c.kind=0∨c.kind=3)) (h2:¬ (c.kind=1∨c.kind=2)):right c=false:=by unfold right; rw [if_neg h1,if_neg h2]
def ordI (x y:Int):Int:=if x<y then -1 else if y<x then 1 else 0
theorem ordI_lt {x y:Int} (h:x<y):ordI x y=-1:=by unfold ordI; rw [if_pos h]
theorem ordI_gt {x y:Int} (h:y<x):ordI x y=1:=by unfold ordI; rw [if_neg (by omega),if_pos h]
theorem ordI_eq {x y:Int} (h:x=y):ordI x y=0:=by unfold ordI; rw [if_neg (by omega),if_neg (by omega)]
theorem ordI_cases (x y:Int):(x<y∧ordI x y=-1)∨(x=y∧ordI x y=0)∨(y<x∧ordI x y=1):=by
 rcases Int.lt_trichotomy x y with h | h | h
 ·exact .inl ⟨h,ordI_lt h⟩
 ·exact .inr (.inl ⟨h,ordI_eq h⟩)
 ·exact .inr (.inr ⟨h,ordI_gt h⟩)
theorem ordI_ordr:Ordr ordI:=by
 refine ⟨fun x y=>?_,fun x y z h1 h2=>?_⟩
 ·rcases ordI_cases x y with ⟨a,b⟩ | ⟨a,b⟩ | ⟨a,b⟩ <;> rcases ordI_cases y x with ⟨c,d⟩ | ⟨c,d⟩ | ⟨c,d⟩ <;> omega
 ·rcases ordI_cases x y with ⟨a,b⟩ | ⟨a,b⟩ | ⟨a,b⟩ <;> rcases ordI_cases y z with ⟨c,d⟩ | ⟨c,d⟩ | ⟨c,d⟩ <;> rcases ordI_cases x z with ⟨e,f⟩ | ⟨e,f⟩ | ⟨e,f⟩ <;> omega
def stand (a b:Cut):Int:=if ofVer a=true∧ofVer b=true∧cmpV a.v b.v≠0 then cmpV a.v b.v else ordI a.kind b.kind
def cmpC (a b:Cut):Int:=if right a=true∧right b=true then stand a b else ordI a.kind b.kind
theorem cmpC_right {a b:Cut} (h1:right a=true) (h2:right b=true):cmpC a b=stand a b:=by unfold cmpC; rw [if_pos ⟨h1,h2⟩]
def kc (c:Cut):Int:=if ofVer c=true then 1 else c.kind
def vk (c:Cut):Ver:=if ofVer c=true then c.v else noVer
theorem stand_lex (a b:Cut):stand a b=lex (fun x y=>ordI (kc x) (kc y)) (lex (fun x y=>cmpV (vk x) (vk y)) fun x y=>ordI x.kind y.kind) a b:=by
 unfold stand
 by_cases h1:ofVer a=true
 ·by_cases h2:ofVer b=true
  ·have e1:ordI (kc a) (kc b)=0:=ordI_eq (by unfold kc; rw [if_pos h1,if_pos h2])
   have e2:cmpV (vk a) (vk b)=cmpV a.v b.v:=by unfold vk; rw [if_pos h1,if_pos h2]
   refine Eq.trans ?_ (lex_yes (f:=fun x y=>ordI (kc x) (kc y)) e1).symm
   by_cases h3:cmpV a.v b.v=0
   ·rw [if_neg (fun h=>h.2.2 h3)]
    exact (lex_yes (f:=fun x y=>cmpV (vk x) (vk y)) (g:=fun x y:Cut=>ordI x.kind y.kind) (by show cmpV (vk a) (vk b)=0; rw [e2]; exact h3)).symm
   ·rw [if_pos ⟨h1,h2,h3⟩,← e2]
    exact (lex_no (f:=fun x y=>cmpV (vk x) (vk y)) (g:=fun x y:Cut=>ordI x.kind y.kind) (by show cmpV (vk a) (vk b)≠0; rw [e2]; exact h3)).symm
  ·rw [if_neg (fun h=>h2 h.2.1)]
   have ha:=(ofVer_iff a).1 h1
   have hb:=(ofVer_no b).1 (by simpa using h2)
   have e1:kc a=1:=by unfold kc; rw [if_pos h1]
   have e2:kc b=b.kind:=by unfold kc; rw [if_neg h2]
   have e3:ordI (kc a) (kc b)=ordI a.kind b.kind:=by
    rw [e1,e2]
    rcases ordI_cases 1 b.kind with ⟨c,d⟩ | ⟨c,d⟩ | ⟨c,d⟩ <;> rcases ordI_cases a.kind b.kind with ⟨e,f⟩ | ⟨e,f⟩ | ⟨e,f⟩ <;> omega
   refine Eq.trans e3.symm (lex_no (f:=fun x y=>ordI (kc x) (kc y)) ?_).symm
   show ordI (kc a) (kc b)≠0
   rw [e3]; rcases ordI_cases a.kind b.kind with ⟨e,f⟩ | ⟨e,f⟩ | ⟨e,f⟩ <;> omega
 ·rw [if_neg (fun h=>h1 h.1)]
  have ha:=(ofVer_no a).1 (by simpa using h1)
  have e1:kc a=a.kind:=by unfold kc; rw [if_neg h1]
  have e0:vk a=noVer:=by unfold vk; rw [if_neg h1]
  by_cases h2:ofVer b=true
  ·have hb:=(ofVer_iff b).1 h2
   have e2:kc b=1:=by unfold kc; rw [if_pos h2]
   have e3:ordI (kc a) (kc b)=ordI a.kind b.kind:=by
    rw [e1,e2]
    rcases ordI_cases a.kind 1 with ⟨c,d⟩ | ⟨c,d⟩ | ⟨c,d⟩ <;> rcases ordI_cases a.kind b.kind with ⟨e,f⟩ | ⟨e,f⟩ | ⟨e,f⟩ <;> omega
   refine Eq.trans e3.symm (lex_no (f:=fun x y=>ordI (kc x) (kc y)) ?_).symm
   show ordI (kc a) (kc b)≠0
   rw [e3]; rcases ordI_cases a.kind b.kind with ⟨e,f⟩ | ⟨e,f⟩ | ⟨e,f⟩ <;> omega
  ·have e2:kc b=b.kind:=by unfold kc; rw [if_neg h2]
   have e4:vk b=noVer:=by unfold vk; rw [if_neg h2]
   by_cases h3:ordI (kc a) (kc b)=0
   ·refine Eq.trans ?_ (lex_yes (f:=fun x y=>ordI (kc x) (kc y)) h3).symm
    exact (lex_yes (f:=fun x y=>cmpV (vk x) (vk y)) (g:=fun x y:Cut=>ordI x.kind y.kind) (by show cmpV (vk a) (vk b)=0; rw [e0,e4]; exact cmpV_ordr.self noVer)).symm
   ·refine Eq.trans ?_ (lex_no (f:=fun x y=>ordI (kc x) (kc y)) h3).symm
    show ordI a.kind b.kind=ordI (kc a) (kc b)
    rw [e1,e2]
theorem stand_ordr:Ordr stand:=by
 have h:stand=lex (fun x y=>ordI (kc x) (kc y)) (lex (fun x y=>cmpV (vk x) (vk y)) fun x y=>ordI x.kind y.kind):=by
  funext a b; exact stand_lex a b
 rw [h]
 exact (ordI_ordr.on kc).lex ((cmpV_ordr.on vk).lex (ordI_ordr.on Cut.kind))
theorem stand_flip (a b:Cut):stand b a=0 - stand a b:=stand_ordr.flip a b
theorem stand_self (a:Cut):stand a a=0:=stand_ordr.self a
theorem le_le {a b c:Cut} (h1:stand a b≤0) (h2:stand b c≤0):stand a c≤0:=stand_ordr.trans a b c h1 h2
theorem le_lt {a b c:Cut} (h1:stand a b≤0) (h2:stand b c<0):stand a c<0:=by
 have h3:=le_le h1 (show stand b c≤0 by omega)
 rcases Int.lt_or_eq_of_le h3 with h | h
 ·exact h
 ·have h4:=stand_flip a c
  have h5:=le_le (show stand c a≤0 by omega) h1
  have h6:=stand_flip b c
  omega
theorem lt_le {a b c:Cut} (h1:stand a b<0) (h2:stand b c≤0):stand a c<0:=by
 have h3:=le_le (show stand a b≤0 by omega) h2
 rcases Int.lt_or_eq_of_le h3 with h | h
 ·exact h
 ·have h4:=stand_flip a c
  have h5:=le_le h2 (show stand c a≤0 by omega)
  have h6:=stand_flip a b
  omega
theorem lt_lt {a b c:Cut} (h1:stand a b<0) (h2:stand b c<0):stand a c<0:=le_lt (by omega) h2
theorem not_lt {a b:Cut} (h:¬ stand a b<0):stand b a≤0:=by have:=stand_flip a b; omega
theorem not_le {a b:Cut} (h:¬ stand a b≤0):stand b a<0:=by have:=stand_flip a b; omega
theorem lt_not {a b:Cut} (h:stand a b<0):¬ stand b a≤0:=by have:=stand_flip a b; omega
theorem le_not {a b:Cut} (h:stand a b≤0):¬ stand b a<0:=by have:=stand_flip a b; omega
theorem like_flip {a b:Cut} (h:stand a b=0):stand b a=0:=by have:=stand_flip a b; omega

def inOne (s:Sp) (c:Cut):Prop:=stand s.lo c≤0∧stand c s.hi<0
def inS (l:List Sp) (c:Cut):Prop:=∃ s ∈ l,inOne s c
def cnt (s:Sp):Bool:=right s.lo && (right s.hi && decide (stand s.lo s.hi<0))
theorem cnt_iff (s:Sp):cnt s=true↔right s.lo=true∧right s.hi=true∧stand s.lo s.hi<0:=by simp [cnt]
def inR (l:List Sp) (c:Cut):Prop:=∃ s ∈ l,cnt s=true∧inOne s c
structure Norm (l:List Sp):Prop where
 cnt:∀ s ∈ l,cnt s=true
 gap:l.Pairwise fun s t=>stand s.hi t.lo<0
theorem Norm.nil:Norm []:=⟨(fun s h=>by cases h),List.Pairwise.nil⟩
theorem Norm.tail {s:Sp} {l:List Sp} (h:Norm (s :: l)):Norm l:=⟨fun t ht=>h.cnt t (List.mem_cons_of_mem _ ht),(List.pairwise_cons.1 h.gap).2⟩
theorem Norm.ahead {s:Sp} {l:List Sp} (h:Norm (s :: l)):∀ t ∈ l,stand s.hi t.lo<0:=(List.pairwise_cons.1 h.gap).1
theorem Norm.head {s:Sp} {l:List Sp} (h:Norm (s :: l)):right s.lo=true∧right s.hi=true∧stand s.lo s.hi<0:=(cnt_iff s).1 (h.cnt s (List.mem_cons_self ..))
theorem Norm.inR {l:List Sp} (h:Norm l) (c:Cut):inR l c↔inS l c:=⟨fun ⟨s,hs,_,hi⟩=>⟨s,hs,hi⟩,fun ⟨s,hs,hi⟩=>⟨s,hs,h.cnt s hs,hi⟩⟩
inductive Like:List Sp→List Sp→Prop
 | nil:Like [] []
 | cons {s t:Sp} {l m:List Sp}:stand s.lo t.lo=0→stand s.hi t.hi=0→Like l m→Like (s :: l) (t :: m)
theorem Like.length {l m:List Sp} (h:Like l m):l.length=m.length:=by
 induction h with
 | nil=>rfl
 | cons _ _ _ ih=>simp [ih]
theorem Like.at {l m:List Sp} (h:Like l m):∀ i,i<l.length→stand (l.getD i default).lo (m.getD i default).lo=0∧stand (l.getD i default).hi (m.getD i default).hi=0:=by
 induction h with
 | nil=>intro i hi; simp at hi
 | cons h1 h2 _ ih =>
  intro i hi
  cases i with
  | zero=>exact ⟨h1,h2⟩
  | succ i=>exact ih i (by simpa using hi)
theorem first_le {s:Sp} {l:List Sp} (h:Norm (s :: l)) {t:Sp} (ht:t ∈ s :: l):stand s.lo t.lo≤0:=by
 rcases List.mem_cons.1 ht with rfl | ht
 ·rw [stand_self]; exact Int.le_refl 0
 ·have h1:=h.ahead t ht
  have h2:=h.head.2.2
  have:=lt_lt h2 h1
  omega
theorem unique:∀ {l m:List Sp},Norm l→Norm m→(∀ c,inS l c↔inS m c)→Like l m
 | [],[],_,_,_=>Like.nil
 | [],t :: m,_,hm,h=>by
  obtain ⟨s,hs,_⟩:=(h t.lo).2 ⟨t,List.mem_cons_self ..,by rw [stand_self]; exact Int.le_refl 0,hm.head.2.2⟩
  cases hs
 | s :: l,[],hl,_,h=>by
  obtain ⟨t,ht,_⟩:=(h s.lo).1 ⟨s,List.mem_cons_self ..,by rw [stand_self]; exact Int.le_refl 0,hl.head.2.2⟩
  cases ht
 | s :: l,t :: m,hl,hm,h=>by
  have hs:=hl.head.2.2
  have ht:=hm.head.2.2
  obtain ⟨t',ht',i1⟩:=(h s.lo).1 ⟨s,List.mem_cons_self ..,by rw [stand_self]; exact Int.le_refl 0,hs⟩
  obtain ⟨s',hs',i2⟩:=(h t.lo).2 ⟨t,List.mem_cons_self ..,by rw [stand_self]; exact Int.le_refl 0,ht⟩
  have e1:=le_le (first_le hm ht') i1.1
  have e2:=le_le (first_le hl hs') i2.1
  have el:stand s.lo t.lo=0:=by have:=stand_flip s.lo t.lo; omega
  have eh:stand s.hi t.hi=0:=by
   rcases Int.lt_trichotomy (stand s.hi t.hi) 0 with g | g | g
   ·exfalso
    obtain ⟨x,hx,i3⟩:=(h s.hi).2 ⟨t,List.mem_cons_self ..,le_le e1 (by omega),g⟩
    rcases List.mem_cons.1 hx with rfl | hx
    ·have:=i3.2; rw [stand_self] at this; omega
    ·exact lt_not (hl.ahead x hx) i3.1
   ·exact g
   ·exfalso
    have g2:stand t.hi s.hi<0:=by have:=stand_flip s.hi t.hi; omega
    obtain ⟨x,hx,i3⟩:=(h t.hi).1 ⟨s,List.mem_cons_self ..,le_le e2 (by omega),g2⟩
    rcases List.mem_cons.1 hx with rfl | hx
    ·have:=i3.2; rw [stand_self] at this; omega
    ·exact lt_not (hm.ahead x hx) i3.1
  refine Like.cons el eh (unique hl.tail hm.tail fun c=>⟨fun ⟨x,hx,i⟩=>?_,fun ⟨x,hx,i⟩=>?_⟩)
  ·obtain ⟨y,hy,j⟩:=(h c).1 ⟨x,List.mem_cons_of_mem _ hx,i⟩
   rcases List.mem_cons.1 hy with rfl | hy
   ·exfalso
    have h1:=lt_le (hl.ahead x hx) i.1
    have h2:=lt_lt h1 j.2
    have:=stand_flip s.hi y.hi
    omega
   ·exact ⟨y,hy,j⟩
  ·obtain ⟨y,hy,j⟩:=(h c).2 ⟨x,List.mem_cons_of_mem _ hx,i⟩
   rcases List.mem_cons.1 hy with rfl | hy
   ·exfalso
    have h1:=lt_le (hm.ahead x hx) i.1
    have h2:=lt_lt h1 j.2
    have:=stand_flip y.hi t.hi
    omega
   ·exact ⟨y,hy,j⟩

theorem sameV_none {v:Ver} (h:sameV v noVer=true):v=noVer:=by
 unfold sameV at h
 rw [Bool.and_eq_true,decide_eq_true_eq,Bool.and_eq_true,sameB_iff,sameB_iff] at h
 obtain ⟨⟨h1,h2,h3⟩,h4,h5⟩:=h
 cases v; simp only [noVer] at *; subst h1; subst h2; subst h3; subst h4; subst h5; rfl
theorem good_len (pre:Bool):∀ (xs:List (List UInt8)) (i:Nat),i≤16→goodFrom pre xs i=true→i+xs.length≤16
 | [],i,hi,_=>by simpa using hi
 | x :: r,i,hi,h=>by
  rw [goodFrom] at h
  simp only [Bool.and_eq_true,beq_iff_eq] at h
  have h1:=(fault_pos h.1.1).2.2
  have:=good_len pre r (i+1) (by omega) h.2
  simp; omega
theorem right_few {c:Cut} (h:right c=true):c.v.pre.length≤16∧c.v.build=[]:=by
 by_cases h1:c.kind=0∨c.kind=3
 ·rw [right_ends h1] at h
  rw [sameV_none h]; exact ⟨by simp [noVer],rfl⟩
 ·by_cases h2:c.kind=1∨c.kind=2
  ·rw [right_ver h2,Bool.and_eq_true,decide_eq_true_eq] at h
   refine ⟨?_,List.eq_nil_of_length_eq_zero h.2⟩
   have hg:=h.1
   unfold goodV at hg
   rw [Bool.and_eq_true,Bool.and_eq_true] at hg
   have:=good_len true c.v.pre 0 (by omega) hg.2.1
   omega
  ·rw [right_none h1 h2] at h; cases h
theorem right_bare {c:Cut} (h:right c=true):bare c.v=c.v:=by
 have:=(right_few h).2
 unfold bare; rw [← this]
theorem low_right:right low=true:=by rw [right_ends (.inl rfl)]; exact sameV_self noVer
theorem high_right:right high=true:=by rw [right_ends (.inr rfl)]; exact sameV_self noVer
theorem low_high:stand low high<0:=by
 unfold stand; rw [if_neg (by rintro ⟨h,_⟩; exact absurd h (by decide))]; exact (show (-1:Int)<0 by omega)
theorem right_kind {c:Cut} (h:right c=true):c.kind=0∨c.kind=1∨c.kind=2∨c.kind=3:=by
 by_cases h1:c.kind=0∨c.kind=3
 ·omega
 ·by_cases h2:c.kind=1∨c.kind=2
  ·omega
  ·rw [right_none h1 h2] at h; cases h
theorem stand_kind {a b:Cut} (h:¬ (ofVer a=true∧ofVer b=true)):stand a b=ordI a.kind b.kind:=by
 unfold stand; rw [if_neg (fun k=>h ⟨k.1,k.2.1⟩)]
theorem low_le {c:Cut} (h:right c=true):stand low c≤0:=by
 rw [stand_kind (by rintro ⟨h,_⟩; exact absurd h (by decide))]
 have:=right_kind h
 have e:low.kind=0:=rfl
 rcases ordI_cases low.kind c.kind with ⟨a,b⟩ | ⟨a,b⟩ | ⟨a,b⟩ <;> omega
theorem le_high {c:Cut} (h:right c=true):stand c high≤0:=by
 rw [stand_kind (by rintro ⟨_,h⟩; exact absurd h (by decide))]
 have:=right_kind h
 have e:high.kind=3:=rfl
 rcases ordI_cases c.kind high.kind with ⟨a,b⟩ | ⟨a,b⟩ | ⟨a,b⟩ <;> omega

def aheadOf (v:Ver):Cut:=⟨1,bare v⟩
def behindOf (v:Ver):Cut:=⟨2,bare v⟩
theorem ahead_behind (v:Ver):stand (aheadOf v) (behindOf v)<0:=by
 have h:cmpV (bare v) (bare v)=0:=cmpV_ordr.self _
 unfold stand
 rw [if_neg (fun k=>k.2.2 h)]; exact (show (-1:Int)<0 by omega)

def goodS (l:List Sp):Bool:=(List.range l.length).all fun i=>cnt (l.getD i default) && (decide (i=0) || decide (stand (l.getD (i - 1) default).hi (l.getD i default).lo<0))
theorem goodS_iff (l:List Sp):goodS l=true↔∀ i,i<l.length→cnt (l.getD i default)=true∧(i=0∨stand (l.getD (i - 1) default).hi (l.getD i default).lo<0):=by
 simp [goodS,List.all_eq_true]
theorem goodS_cons {s:Sp} {l:List Sp}:goodS (s :: l)=true↔cnt s=true∧(l=[]∨stand s.hi (l.getD 0 default).lo<0)∧goodS l=true:=by
 rw [goodS_iff,goodS_iff]
 constructor
 ·intro h
  have h0:=h 0 (by simp)
  refine ⟨h0.1,?_,fun i hi=>?_⟩
  ·cases l with
   | nil=>exact .inl rfl
   | cons t l =>
    have h1:=h 1 (by simp)
    rcases h1.2 with h2 | h2
    ·omega
    ·exact .inr h2
  ·have h1:=h (i+1) (by simp; omega)
   refine ⟨h1.1,?_⟩
   rcases Nat.eq_zero_or_pos i with h2 | h2
   ·exact .inl h2
   ·right
    rcases h1.2 with h3 | h3
    ·omega
    ·obtain ⟨j,rfl⟩:∃ j,i=j+1:=⟨i - 1,by omega⟩
     exact h3
 ·rintro ⟨h1,h2,h3⟩ i hi
  rcases Nat.eq_zero_or_pos i with h4 | h4
  ·subst h4; exact ⟨h1,.inl rfl⟩
  ·obtain ⟨j,rfl⟩:∃ j,i=j+1:=⟨i - 1,by omega⟩
   have h5:=h3 j (by simp at hi; omega)
   refine ⟨h5.1,.inr ?_⟩
   rcases Nat.eq_zero_or_pos j with h6 | h6
   ·subst h6
    rcases h2 with h7 | h7
    ·subst h7; simp at hi
    ·exact h7
   ·obtain ⟨k,rfl⟩:∃ k,j=k+1:=⟨j - 1,by omega⟩
    rcases h5.2 with h7 | h7
    ·omega
    ·exact h7
theorem goodS_norm:∀ l:List Sp,goodS l=true↔Norm l
 | []=>⟨fun _=>Norm.nil,fun _=>rfl⟩
 | s :: l=>by
  rw [goodS_cons,goodS_norm l]
  constructor
  ·rintro ⟨h1,h2,h3⟩
   refine ⟨fun t ht=>?_,List.pairwise_cons.2 ⟨fun t ht=>?_,h3.gap⟩⟩
   ·rcases List.mem_cons.1 ht with rfl | ht
    ·exact h1
    ·exact h3.cnt t ht
   ·cases l with
    | nil=>cases ht
    | cons x l =>
     rcases h2 with h2 | h2
     ·cases h2
     ·exact lt_le h2 (first_le h3 ht)
  ·intro h
   refine ⟨h.cnt s (List.mem_cons_self ..),?_,h.tail⟩
   cases l with
   | nil=>exact .inl rfl
   | cons x l=>exact .inr (h.ahead x (List.mem_cons_self ..))
end Go.Proofs.YtgfbflnhjpbceaaGreatDoor.Span
namespace Go.Proofs.YtgfbflnhjpbceaaGreatDoor.Semver
open Go.RowKit Num Ident

theorem readRow_pre (A:Option Addr) (n c:Nat) (l:List UInt8) (p:Nat) (w:World) (h:Row w A n l) (hc:n≤c) (hp:p≤n) :
  Calls Tryz.prog 182 #[.slice A n c,.int .i64 p,.int .u8 45] w (RowPostF w (rowAt l p 45)):=by
 have hm:=h.2.1
 unfold maxLen at hm
 have HR:=Lib.hid h
 have HL:=Lib.hid h.1
 have HC:=Lib.hid h.2.2
 clear h
 by_cases h0:p=n
 ·have HF:=Lib.hid (rowAt_none (l:=l) (p:=p) (m:=45) (.inl (by rw [HL.out]; exact h0)))
  subst h0
  have hb:((p:Int) == (p:Int))=true:=by simp
  rw [HF.out]
  go_enter Tryz.func182,Tryz.ntmps182
  go_wp2
  go_ret3
  exact ⟨none,0,rfl,Nat.le_refl _,SRow.none_ _ _,Below.refl _ _,Fresh.none_ _ _⟩
 ·have hlt:p<n:=by omega
  have hb:((p:Int) == (n:Int))=false:=by simp; omega
  have H0:Hid (p≠l.length):=by unfold Hid; rw [HL.out]; exact h0
  obtain ⟨b,o,rfl,hbl,hcell⟩:=HC.out (by omega)
  have hx:=hcell p hlt
  clear hcell HC h0
  have hbd:=byteAt_bd l p
  have HN:=Lib.hid (fun h=>rowAt_none (l:=l) (p:=p) (m:=45) (.inr h))
  have HY:=Lib.hid (fun h=>rowAt_some (l:=l) (p:=p) (m:=45) H0.out h)
  generalize byteAt l p=x at hx hbd HN HY
  by_cases hxm:x=45
  ·have HF:=Lib.hid (HY.out (by exact hxm))
   have h1:(x != 45)=false:=by simp [hxm]
   clear hxm HN HY
   rw [HF.out]
   have HQ:=Lib.hid (fun W hW=>row_anyF (some ⟨b,o,none⟩) n c l ((p+1:Nat):Int) true W hW hc)
   rw [show ((45:Nat) == 45)=true from rfl]
   obtain ⟨⟨E,N,xs⟩,hr⟩:∃ t,row l ((p+1:Nat):Int) true=t:=⟨_,rfl⟩
   have HE:=Lib.hid (row_end l (p+1) true (by rw [HL.out]; exact hlt))
   rw [hr] at HQ HE ⊢
   clear hr HF
   have hE:p+1+N≤n:=by have:=HE.out; rw [HL.out] at this; exact this
   go_enter Tryz.func182,Tryz.ntmps182
   go_wp2_with fail
   refine (HQ.out _ HR.out).mono ?_
   rintro e w1 ⟨A1,c1,rfl,hc1,hr1,hb1,hf1⟩
   simp only at hc1 hr1 hf1 ⊢
   have HR1:=Lib.hid hr1
   have HB1:=Lib.hid hb1
   clear hr1 hb1
   go_wp2
   go_ret3
   exact ⟨A1,c1,by simp,hc1,HR1.out,HB1.out,hf1⟩
  ·have HF:=Lib.hid (HN.out (by exact hxm))
   have h1:(x != 45)=true:=by simp [hxm]
   clear hxm HN HY
   rw [HF.out]
   go_enter Tryz.func182,Tryz.ntmps182
   go_wp2
   go_ret3
   exact ⟨none,0,rfl,Nat.le_refl _,SRow.none_ _ _,Below.refl _ _,Fresh.none_ _ _⟩

theorem readRow_build (A:Option Addr) (n c:Nat) (l:List UInt8) (p:Nat) (w:World) (h:Row w A n l) (hc:n≤c) (hp:p≤n) :
  Calls Tryz.prog 182 #[.slice A n c,.int .i64 p,.int .u8 43] w (RowPostF w (rowAt l p 43)):=by
 have hm:=h.2.1
 unfold maxLen at hm
 have HR:=Lib.hid h
 have HL:=Lib.hid h.1
 have HC:=Lib.hid h.2.2
 clear h
 by_cases h0:p=n
 ·have HF:=Lib.hid (rowAt_none (l:=l) (p:=p) (m:=43) (.inl (by rw [HL.out]; exact h0)))
  subst h0
  have hb:((p:Int) == (p:Int))=true:=by simp
  rw [HF.out]
  go_enter Tryz.func182,Tryz.ntmps182
  go_wp2
  go_ret3
  exact ⟨none,0,rfl,Nat.le_refl _,SRow.none_ _ _,Below.refl _ _,Fresh.none_ _ _⟩
 ·have hlt:p<n:=by omega
  have hb:((p:Int) == (n:Int))=false:=by simp; omega
  have H0:Hid (p≠l.length):=by unfold Hid; rw [HL.out]; exact h0
  obtain ⟨b,o,rfl,hbl,hcell⟩:=HC.out (by omega)
  have hx:=hcell p hlt
  clear hcell HC h0
  have hbd:=byteAt_bd l p
  have HN:=Lib.hid (fun h=>rowAt_none (l:=l) (p:=p) (m:=43) (.inr h))
  have HY:=Lib.hid (fun h=>rowAt_some (l:=l) (p:=p) (m:=43) H0.out h)
  generalize byteAt l p=x at hx hbd HN HY
  by_cases hxm:x=43
  ·have HF:=Lib.hid (HY.out (by exact hxm))
   have h1:(x != 43)=false:=by simp [hxm]
   clear hxm HN HY
   rw [HF.out]
   have HQ:=Lib.hid (fun W hW=>row_anyF (some ⟨b,o,none⟩) n c l ((p+1:Nat):Int) false W hW hc)
   rw [show ((43:Nat) == 45)=false from rfl]
   obtain ⟨⟨E,N,xs⟩,hr⟩:∃ t,row l ((p+1:Nat):Int) false=t:=⟨_,rfl⟩
   have HE:=Lib.hid (row_end l (p+1) false (by rw [HL.out]; exact hlt))
   rw [hr] at HQ HE ⊢
   clear hr HF
   have hE:p+1+N≤n:=by have:=HE.out; rw [HL.out] at this; exact this
   go_enter Tryz.func182,Tryz.ntmps182
   go_wp2_with fail
   refine (HQ.out _ HR.out).mono ?_
   rintro e w1 ⟨A1,c1,rfl,hc1,hr1,hb1,hf1⟩
   simp only at hc1 hr1 hf1 ⊢
   have HR1:=Lib.hid hr1
   have HB1:=Lib.hid hb1
   clear hr1 hb1
   go_wp2
   go_ret3
   exact ⟨A1,c1,by simp,hc1,HR1.out,HB1.out,hf1⟩
  ·have HF:=Lib.hid (HN.out (by exact hxm))
   have h1:(x != 43)=true:=by simp [hxm]
   clear hxm HN HY
   rw [HF.out]
   go_enter Tryz.func182,Tryz.ntmps182
   go_wp2
   go_ret3
   exact ⟨none,0,rfl,Nat.le_refl _,SRow.none_ _ _,Below.refl _ _,Fresh.none_ _ _⟩

def VerPostF (w:World) (r:Out) (e:Ending) (w':World):Prop :=
 ∃ A c B d,e=.returned (.tuple #[.agg #[r.2.2.a,r.2.2.b,r.2.2.c,.slice A r.2.2.pre.length c,.slice B r.2.2.build.length d],.int .i64 r.2.1,.int .i64 r.1]) ∧
  r.2.2.pre.length≤c∧r.2.2.build.length≤d∧SRow w' A r.2.2.pre.length r.2.2.pre∧SRow w' B r.2.2.build.length r.2.2.build∧Below w.heap.size w w'∧Fresh w.heap.size A r.2.2.pre.length∧Fresh w.heap.size B r.2.2.build.length
theorem VerPostF.bad {w w':World} {q f:Nat} (hb:Below w.heap.size w w'):VerPostF w (f,q,noVer) (.returned (.tuple #[.agg #[.int .u64 0,.int .u64 0,.int .u64 0,.slice none 0 0,.slice none 0 0],.int .i64 q,.int .i64 f])) w' :=
 ⟨none,0,none,0,rfl,Nat.le_refl _,Nat.le_refl _,SRow.none_ _ _,SRow.none_ _ _,hb,Fresh.none_ _ _,Fresh.none_ _ _⟩

theorem parse_out (A:Option Addr) (n c:Nat) (l:List UInt8) (p:Int) (w:World) (h:Row w A n l) (ho:p<0∨(n:Int)<p) :
  Calls Tryz.prog 171 #[.slice A n c,.int .i64 p] w (VerPostF w (vparse l p)):=by
 have HE:Hid (vparse l p=(1,0,noVer)):=by
  unfold Hid vparse; rw [if_pos (by rw [h.1]; exact ho)]
 rw [HE.out]
 clear h HE
 by_cases h0:p<0
 ·go_enter Tryz.func171,Tryz.ntmps171
  go_wp2
  exact bodyPost_ret (v:=.tuple #[.agg #[.int .u64 0,.int .u64 0,.int .u64 0,.slice none 0 0,.slice none 0 0],.int .i64 0,.int .i64 1]) (by simp [results,Tryz.results171,go_sem]) rfl (VerPostF.bad (q:=0) (f:=1) ((Below.refl _ _).alloc (Nat.le_refl _) _))
 ·have h1:(n:Int)<p:=by omega
  clear ho
  go_enter Tryz.func171,Tryz.ntmps171
  go_wp2
  exact bodyPost_ret (v:=.tuple #[.agg #[.int .u64 0,.int .u64 0,.int .u64 0,.slice none 0 0,.slice none 0 0],.int .i64 0,.int .i64 1]) (by simp [results,Tryz.results171,go_sem]) rfl (VerPostF.bad (q:=0) (f:=1) ((Below.refl _ _).alloc (Nat.le_refl _) _))

theorem parse_in (A:Option Addr) (n c:Nat) (l:List UInt8) (p:Nat) (w:World) (h:Row w A n l) (hc:n≤c) (hp:p≤n) :
  Calls Tryz.prog 171 #[.slice A n c,.int .i64 p] w (VerPostF w (vparse l p)):=by
 have hm:=h.2.1
 unfold maxLen at hm
 have HR:=Lib.hid h
 have HL:=Lib.hid h.1
 have HE:Hid (vparse l p=inside l p):=by
  unfold Hid vparse; rw [if_neg (by rw [h.1]; omega),Int.toNat_natCast]
 rw [HE.out]
 clear h HE
 have hp0:¬ (p:Int)<0:=by omega
 have hp1:¬ n<p:=by omega
 have HB0:Hid (Below w.heap.size w (w.alloc false)):=(Below.refl _ _).alloc (Nat.le_refl _) _
 obtain ⟨⟨f,q,x,y,z⟩,hk⟩:∃ t,core l p=t:=⟨_,rfl⟩
 have HQ:=Lib.hid (core_end l p (by rw [HL.out]; exact hp))
 have HI:Hid (inside l p=if f≠0 then (f,q,noVer) else tail1 l x y z q):=by unfold Hid inside; rw [hk]
 have HO:Hid (coreOut (core l p)=.tuple #[.agg #[.int .u64 x,.int .u64 y,.int .u64 z],.int .i64 q,.int .i64 f]):=by unfold Hid; rw [hk]; rfl
 rw [hk] at HQ
 have hq:q≤n:=by have:=HQ.out; rw [HL.out] at this; exact this
 clear hk HQ
 go_enter Tryz.func171,Tryz.ntmps171
 go_wp2_with fail
 refine (readCore_any _ _ _ l p _ (HR.out.kept HB0.out) hc hp).mono ?_
 rw [HO.out]
 rintro e w1 ⟨rfl,hb1⟩
 have hz1:w.heap.size+1≤w1.heap.size:=by have:=hb1.size; simpa using this
 have HV1:Hid (At5 w1 w.heap.size (.int .u64 0) (.int .u64 0) (.int .u64 0) (.slice none 0 0) (.slice none 0 0)):=(At5.new w 25 _ _ _ _ _).kept hb1 (by simp)
 have HC1:Hid (At3 (w1.alloc (.cells #[.int .u64 x,.int .u64 y,.int .u64 z] 99)) w1.heap.size (.int .u64 x) (.int .u64 y) (.int .u64 z)):=At3.new w1 99 _ _ _
 have HB1w:Hid (Below w.heap.size w w1):=HB0.out.trans (hb1.mono (by simp))
 have HB1:Hid (Below w.heap.size w (w1.alloc (.cells #[.int .u64 x,.int .u64 y,.int .u64 z] 99))):=(HB0.out.trans (hb1.mono (by simp))).alloc (by omega) _
 clear hb1
 by_cases h0:f=0
 ·subst h0
  have HI2:Hid (inside l p=tail1 l x y z q):=HI.out.trans (if_neg (by simp))
  clear HI
  have HP2:=Lib.hid (fun W hW=>readRow_pre A n c l q W hW hc hq)
  have HQ:=Lib.hid (rowAt_end l q 45 (by rw [HL.out]; exact hq))
  have HT:Hid (tail1 l x y z q=if (rowAt l q 45).1≠0 then ((rowAt l q 45).1,(rowAt l q 45).2.1,noVer) else tail2 l x y z (rowAt l q 45).2.2 (rowAt l q 45).2.1):=rfl
  obtain ⟨⟨f,q2,xs⟩,hr⟩:∃ t,rowAt l q 45=t:=⟨_,rfl⟩
  rw [hr] at HP2 HQ HT
  clear hr
  have hq2:q2≤n:=by have:=HQ.out; rw [HL.out] at this; exact this
  go_wp2_with fail
  refine (HP2.out _ (HR.out.kept HB1.out)).mono ?_
  rintro e w2 ⟨A2,c2,rfl,hc2,hr2,hb2,hf2⟩
  simp only at hc2 hr2 hf2 ⊢
  replace hf2:=hf2.mono (B':=w.heap.size) (by simp; omega)
  have hz2:w1.heap.size+1≤w2.heap.size:=by have:=hb2.size; simpa using this
  have HB2:=Lib.hid (HB1.out.trans (hb2.mono (by simp; omega)))
  have HV2:Hid (At5 w2 w.heap.size (.int .u64 0) (.int .u64 0) (.int .u64 0) (.slice none 0 0) (.slice none 0 0)):=(HV1.out.kept ((Below.refl _ _).alloc (Nat.le_refl _) _) (by omega)).kept hb2 (by simp; omega)
  have HC2:=Lib.hid (HC1.out.kept hb2 (by simp))
  have HR2:=Lib.hid hr2
  clear hb2 hr2 HV1 HC1
  by_cases h0:f=0
  ·subst h0
   have HI3:Hid (inside l p=tail2 l x y z xs q2):=HI2.out.trans (HT.out.trans (if_neg (by simp)))
   clear HT HI2
   have HP3:=Lib.hid (fun W hW=>readRow_build A n c l q2 W hW hc hq2)
   have HQ3:=Lib.hid (rowAt_end l q2 43 (by rw [HL.out]; exact hq2))
   have HT:Hid (tail2 l x y z xs q2=if (rowAt l q2 43).1≠0 then ((rowAt l q2 43).1,(rowAt l q2 43).2.1,noVer) else (0,(rowAt l q2 43).2.1,⟨x,y,z,xs,(rowAt l q2 43).2.2⟩)):=rfl
   obtain ⟨⟨f,q3,ys⟩,hr⟩:∃ t,rowAt l q2 43=t:=⟨_,rfl⟩
   rw [hr] at HP3 HQ3 HT
   clear hr
   go_wp2_with fail
   refine (HP3.out _ (HR.out.kept HB2.out)).mono ?_
   rintro e w3 ⟨A3,c3,rfl,hc3,hr3,hb3,hf3⟩
   simp only at hc3 hr3 hf3 ⊢
   replace hf3:=hf3.mono (B':=w.heap.size) (by omega)
   have hz3:w2.heap.size≤w3.heap.size:=hb3.size
   have HB3:=Lib.hid (HB2.out.trans (hb3.mono (by omega)))
   have HV3:=Lib.hid (HV2.out.kept hb3 (by omega))
   have HC3:=Lib.hid (HC2.out.kept hb3 (by omega))
   have HR3:=Lib.hid hr3
   have HR2':=Lib.hid (HR2.out.kept hb3)
   clear hb3 hr3 HV2 HC2
   by_cases h0:f=0
   ·subst h0
    have HI4:Hid (inside l p=(0,q3,⟨x,y,z,xs,ys⟩)):=HI3.out.trans (HT.out.trans (if_neg (by simp)))
    clear HT HI3
    obtain ⟨hvl,hvf,hv0,hv1,hv2,hv3,hv4⟩:=HV3.out
    obtain ⟨hcl,hcf,hk0,hk1,hk2⟩:=HC3.out
    have HA:=Lib.hid (HR2'.out.set5 hv0 hv1 hv2 hv3 hv4 (by simp) (by simp) (by simp) (by simp) (by simp) (.int .u64 x) (.int .u64 y) (.int .u64 z) (.slice A2 xs.length c2) (.slice A3 ys.length c3))
    have HB:=Lib.hid (HR3.out.set5 hv0 hv1 hv2 hv3 hv4 (by simp) (by simp) (by simp) (by simp) (by simp) (.int .u64 x) (.int .u64 y) (.int .u64 z) (.slice A2 xs.length c2) (.slice A3 ys.length c3))
    go_wp2
    exact bodyPost_ret (v:=.tuple #[.agg #[.int .u64 x,.int .u64 y,.int .u64 z,.slice A2 xs.length c2,.slice A3 ys.length c3],.int .i64 q3,.int .i64 0]) (by simp [results,Tryz.results171,go_sem,hv0,hv1,hv2,hv3,hv4]) rfl (by rw [HI4.out]; exact ⟨A2,c2,A3,c3,rfl,hc2,hc3,HA.out,HB.out,(((((HB3.out.setCell (by simp) _).setCell (by simp) _).setCell (by simp) _).setCell (by simp) _).setCell (by simp) _),hf2,hf3⟩)
   ·have HI4:Hid (inside l p=(f,q3,noVer)):=HI3.out.trans (HT.out.trans (if_pos h0))
    clear HT HI3
    have hb1:((f:Int) != 0)=true:=by simp [h0]
    have hb2:((f:Int) == 0)=false:=by simp [h0]
    clear h0
    obtain ⟨hvl,hvf,hv0,hv1,hv2,hv3,hv4⟩:=HV3.out
    have hne:=Nat.ne_of_lt hvl
    go_wp2
    exact bodyPost_ret (v:=.tuple #[.agg #[.int .u64 0,.int .u64 0,.int .u64 0,.slice none 0 0,.slice none 0 0],.int .i64 q3,.int .i64 f]) (by simp [results,Tryz.results171,go_sem,hv0,hv1,hv2,hv3,hv4]) rfl (by rw [HI4.out]; exact VerPostF.bad (((((HB3.out.setCell (by simp) _).setCell (by simp) _).setCell (by simp) _).setCell (by simp) _).setCell (by simp) _))
  ·have HI3:Hid (inside l p=(f,q2,noVer)):=HI2.out.trans (HT.out.trans (if_pos h0))
   clear HT HI2
   have hb1:((f:Int) != 0)=true:=by simp [h0]
   have hb2:((f:Int) == 0)=false:=by simp [h0]
   clear h0
   obtain ⟨hvl,hvf,hv0,hv1,hv2,hv3,hv4⟩:=HV2.out
   have hne:=Nat.ne_of_lt hvl
   go_wp2
   exact bodyPost_ret (v:=.tuple #[.agg #[.int .u64 0,.int .u64 0,.int .u64 0,.slice none 0 0,.slice none 0 0],.int .i64 q2,.int .i64 f]) (by simp [results,Tryz.results171,go_sem,hv0,hv1,hv2,hv3,hv4]) rfl (by rw [HI3.out]; exact VerPostF.bad (((((HB2.out.setCell (by simp) _).setCell (by simp) _).setCell (by simp) _).setCell (by simp) _).setCell (by simp) _))
 ·have HI2:Hid (inside l p=(f,q,noVer)):=HI.out.trans (if_pos h0)
  clear HI
  have hb1:((f:Int) != 0)=true:=by simp [h0]
  have hb2:((f:Int) == 0)=false:=by simp [h0]
  clear h0
  obtain ⟨hvl,hvf,hv0,hv1,hv2,hv3,hv4⟩:=HV1.out
  have hne:=Nat.ne_of_lt hvl
  go_wp2
  exact bodyPost_ret (v:=.tuple #[.agg #[.int .u64 0,.int .u64 0,.int .u64 0,.slice none 0 0,.slice none 0 0],.int .i64 q,.int .i64 f]) (by simp [results,Tryz.results171,go_sem,hv0,hv1,hv2,hv3,hv4,hvl]) rfl (by rw [HI2.out]; exact VerPostF.bad ((((((HB1w.out.setCell (by simp) _).setCell (by simp) _).setCell (by simp) _).setCell (by simp) _).setCell (by simp) _).alloc (by simp; omega) _))

theorem parse_anyF (A:Option Addr) (n c:Nat) (l:List UInt8) (p:Int) (w:World) (h:Row w A n l) (hc:n≤c) :
  Calls Tryz.prog 171 #[.slice A n c,.int .i64 p] w (VerPostF w (vparse l p)):=by
 by_cases ho:p<0∨(n:Int)<p
 ·exact parse_out A n c l p w h ho
 ·obtain ⟨k,rfl⟩:=Int.eq_ofNat_of_zero_le (show 0≤p by omega)
  exact parse_in A n c l k w h hc (by omega)

end Go.Proofs.YtgfbflnhjpbceaaGreatDoor.Semver
namespace Go.Proofs.YtgfbflnhjpbceaaGreatDoor.Prec
open Go.RowKit Num Ident Semver

theorem refNums_any (x y:Nat) (w:World):Calls Tryz.prog 102 #[.int .u64 x,.int .u64 y] w fun e w'=>e=.returned (.int .i64 (ordN x y))∧w=w':=by
 rcases Nat.lt_trichotomy x y with h | h | h
 ·have HF:=Lib.hid (ordN_lt h)
  go_enter Tryz.func102,Tryz.ntmps102
  go_wp2
  go_ret
  exact ⟨by rw [HF.out]; rfl,rfl⟩
 ·have HF:=Lib.hid (ordN_eq h)
  subst h
  go_enter Tryz.func102,Tryz.ntmps102
  go_wp2
  go_ret
  exact ⟨by rw [HF.out]; rfl,rfl⟩
 ·have HF:=Lib.hid (ordN_gt h)
  go_enter Tryz.func102,Tryz.ntmps102
  go_wp2
  go_ret
  exact ⟨by rw [HF.out]; rfl,rfl⟩
theorem cmpV_core {u v:Ver} (h:cmpCore u v≠0):cmpV u v=cmpCore u v:=lex_no h
theorem cmpV_pre {u v:Ver} (h1:u.a=v.a) (h2:u.b=v.b) (h3:u.c=v.c):cmpV u v=cmpPre u.pre v.pre:=lex_yes (f:=cmpCore) (by
 unfold cmpCore
 refine (lex_yes (f:=fun u v:Ver=>ordN u.a v.a) ((ordN_zero_iff _ _).2 h1)).trans ?_
 refine (lex_yes (f:=fun u v:Ver=>ordN u.b v.b) ((ordN_zero_iff _ _).2 h2)).trans ?_
 exact (ordN_zero_iff _ _).2 h3)
theorem cmpV_1 {u v:Ver} (h:u.a≠v.a):cmpV u v=ordN u.a v.a:=by
 have e:=cmpCore_1 h
 rw [cmpV_core (by rw [e]; exact fun k=>h ((ordN_zero_iff _ _).1 k)),e]
theorem cmpV_2 {u v:Ver} (h1:u.a=v.a) (h:u.b≠v.b):cmpV u v=ordN u.b v.b:=by
 have e:=cmpCore_2 h1 h
 rw [cmpV_core (by rw [e]; exact fun k=>h ((ordN_zero_iff _ _).1 k)),e]
theorem cmpV_3 {u v:Ver} (h1:u.a=v.a) (h2:u.b=v.b) (h:u.c≠v.c):cmpV u v=ordN u.c v.c:=by
 have e:cmpCore u v=ordN u.c v.c:=by
  unfold cmpCore
  refine (lex_yes (f:=fun u v:Ver=>ordN u.a v.a) ((ordN_zero_iff _ _).2 h1)).trans ?_
  exact lex_yes (f:=fun u v:Ver=>ordN u.b v.b) ((ordN_zero_iff _ _).2 h2)
 rw [cmpV_core (by rw [e]; exact fun k=>h ((ordN_zero_iff _ _).1 k)),e]
theorem pre_none {x y:List (List UInt8)} (h1:x.length=0) (h2:y.length=0):cmpPre x y=0:=by
 obtain rfl:=List.eq_nil_of_length_eq_zero h1
 obtain rfl:=List.eq_nil_of_length_eq_zero h2
 exact pre_ordr.self _
theorem pre_rows {x y:List (List UInt8)} (h1:x.length≠0) (h2:y.length≠0):cmpPre x y=cmpRows x y:=by
 unfold cmpPre; exact lex_yes (f:=fun x y=>ordN (noneN x) (noneN y)) (ordN_eq (by unfold noneN; rw [if_neg h1,if_neg h2]))

theorem refCompare_any (u v:Ver) (A1 A2 B1 B2:Option Addr) (c1 c2 d1 d2:Nat) (w:World) (r1:SRow w A1 u.pre.length u.pre) (q1:SRow w B1 v.pre.length v.pre) (n1:u.pre.length≤maxLen) (n2:v.pre.length≤maxLen) (f1:∀ x ∈ u.pre,x.length≤1000) (g1:∀ x ∈ v.pre,x.length≤1000) :
  Calls Tryz.prog 67 #[.agg #[u.a,u.b,u.c,.slice A1 u.pre.length c1,.slice A2 u.build.length c2],.agg #[v.a,v.b,v.c,.slice B1 v.pre.length d1,.slice B2 v.build.length d2]] w fun e w'=>e=.returned (.int .i64 (cmpV u v))∧Below w.heap.size w w':=by
 have HBa:Hid (Below w.heap.size w ((w.alloc (.cells #[u.a,u.b,u.c,.slice A1 u.pre.length c1,.slice A2 u.build.length c2] 25)).alloc (.cells #[v.a,v.b,v.c,.slice B1 v.pre.length d1,.slice B2 v.build.length d2] 25))):=((Below.refl _ _).alloc (Nat.le_refl _) _).alloc (by simp) _
 have R1:=Lib.hid (r1.kept HBa.out)
 have Q1:=Lib.hid (q1.kept HBa.out)
 have K1:Hid (At5 ((w.alloc (.cells #[u.a,u.b,u.c,.slice A1 u.pre.length c1,.slice A2 u.build.length c2] 25)).alloc (.cells #[v.a,v.b,v.c,.slice B1 v.pre.length d1,.slice B2 v.build.length d2] 25)) w.heap.size u.a u.b u.c (.slice A1 u.pre.length c1) (.slice A2 u.build.length c2)):=(At5.new w 25 _ _ _ _ _).kept ((Below.refl _ _).alloc (Nat.le_refl _) _) (by simp)
 have K2:Hid (At5 ((w.alloc (.cells #[u.a,u.b,u.c,.slice A1 u.pre.length c1,.slice A2 u.build.length c2] 25)).alloc (.cells #[v.a,v.b,v.c,.slice B1 v.pre.length d1,.slice B2 v.build.length d2] 25)) (w.heap.size+1) v.a v.b v.c (.slice B1 v.pre.length d1) (.slice B2 v.build.length d2)):=by
  have:=At5.new (w.alloc (.cells #[u.a,u.b,u.c,.slice A1 u.pre.length c1,.slice A2 u.build.length c2] 25)) 25 v.a v.b v.c (.slice B1 v.pre.length d1) (.slice B2 v.build.length d2)
  rw [size_alloc] at this; exact this
 have N1:=Lib.hid n1
 have N2:=Lib.hid n2
 have F1:=Lib.hid f1
 have G1:=Lib.hid g1
 unfold maxLen at n1 n2
 clear r1 q1 f1 g1
 by_cases h1:u.a=v.a
 ·have e1:((u.a:Int) == (v.a:Int))=true:=by simp [h1]
  have e1':((u.a:Int) != (v.a:Int))=false:=by simp [h1]
  by_cases h2:u.b=v.b
  ·have e2:((u.b:Int) == (v.b:Int))=true:=by simp [h2]
   have e2':((u.b:Int) != (v.b:Int))=false:=by simp [h2]
   by_cases h3:u.c=v.c
   ·have e3:((u.c:Int) == (v.c:Int))=true:=by simp [h3]
    have e3':((u.c:Int) != (v.c:Int))=false:=by simp [h3]
    have HP:=Lib.hid (cmpV_pre h1 h2 h3)
    clear h1 h2 h3
    by_cases hu:u.pre.length=0
    ·have eu:((u.pre.length:Int) == 0)=true:=by rw [beq_iff_eq]; omega
     by_cases hv:v.pre.length=0
     ·have ev:((v.pre.length:Int) == 0)=true:=by rw [beq_iff_eq]; omega
      have HF:=Lib.hid (HP.out.trans (pre_none hu hv))
      clear hu hv
      go_enter Tryz.func67,Tryz.ntmps67
      go_upto_region 1 with (fail)
      generalize ((w.alloc (.cells #[u.a,u.b,u.c,.slice A1 u.pre.length c1,.slice A2 u.build.length c2] 25)).alloc (.cells #[v.a,v.b,v.c,.slice B1 v.pre.length d1,.slice B2 v.build.length d2] 25))=W at HBa R1 Q1 K1 K2 ⊢
      obtain ⟨_,_,x0,x1,x2,x3,x4⟩:=K1.out
      obtain ⟨_,_,y0,y1,y2,y3,y4⟩:=K2.out
      go_wp2
      go_ret
      exact ⟨by rw [HF.out]; rfl,HBa.out⟩
     ·have ev:((v.pre.length:Int) == 0)=false:=by rw [beq_eq_false_iff_ne]; omega
      have HF:=Lib.hid (HP.out.trans (cmpPre_one hu hv))
      clear hu hv
      go_enter Tryz.func67,Tryz.ntmps67
      go_upto_region 1 with (fail)
      generalize ((w.alloc (.cells #[u.a,u.b,u.c,.slice A1 u.pre.length c1,.slice A2 u.build.length c2] 25)).alloc (.cells #[v.a,v.b,v.c,.slice B1 v.pre.length d1,.slice B2 v.build.length d2] 25))=W at HBa R1 Q1 K1 K2 ⊢
      obtain ⟨_,_,x0,x1,x2,x3,x4⟩:=K1.out
      obtain ⟨_,_,y0,y1,y2,y3,y4⟩:=K2.out
      go_wp2
      go_ret
      exact ⟨by rw [HF.out]; rfl,HBa.out⟩
    ·have eu:((u.pre.length:Int) == 0)=false:=by rw [beq_eq_false_iff_ne]; omega
     by_cases hv:v.pre.length=0
     ·have ev:((v.pre.length:Int) == 0)=true:=by rw [beq_iff_eq]; omega
      have HF:=Lib.hid (HP.out.trans (cmpPre_two hu hv))
      clear hu hv
      go_enter Tryz.func67,Tryz.ntmps67
      go_upto_region 1 with (fail)
      generalize ((w.alloc (.cells #[u.a,u.b,u.c,.slice A1 u.pre.length c1,.slice A2 u.build.length c2] 25)).alloc (.cells #[v.a,v.b,v.c,.slice B1 v.pre.length d1,.slice B2 v.build.length d2] 25))=W at HBa R1 Q1 K1 K2 ⊢
      obtain ⟨_,_,x0,x1,x2,x3,x4⟩:=K1.out
      obtain ⟨_,_,y0,y1,y2,y3,y4⟩:=K2.out
      go_wp2
      go_ret
      exact ⟨by rw [HF.out]; rfl,HBa.out⟩
     ·have ev:((v.pre.length:Int) == 0)=false:=by rw [beq_eq_false_iff_ne]; omega
      have HF:=Lib.hid (HP.out.trans (pre_rows hu hv))
      clear hu hv
      go_enter Tryz.func67,Tryz.ntmps67
      go_upto_region 1 with (fail)
      generalize ((w.alloc (.cells #[u.a,u.b,u.c,.slice A1 u.pre.length c1,.slice A2 u.build.length c2] 25)).alloc (.cells #[v.a,v.b,v.c,.slice B1 v.pre.length d1,.slice B2 v.build.length d2] 25))=W at HBa R1 Q1 K1 K2 ⊢
      obtain ⟨_,_,x0,x1,x2,x3,x4⟩:=K1.out
      obtain ⟨_,_,y0,y1,y2,y3,y4⟩:=K2.out
      go_wp2_with fail
      refine (refRows_any _ _ _ u.pre _ _ _ v.pre _ R1.out Q1.out N1.out N2.out F1.out G1.out).mono ?_
      rintro e w3 ⟨rfl,hb3⟩
      have B3:=Lib.hid (HBa.out.trans (hb3.mono HBa.out.size))
      clear hb3 x0 x1 x2 x3 x4 y0 y1 y2 y3 y4
      go_wp2
      go_ret
      exact ⟨by rw [HF.out]; rfl,B3.out⟩
   ·have e3:((u.c:Int) == (v.c:Int))=false:=by simp; omega
    have e3':((u.c:Int) != (v.c:Int))=true:=by simp; omega
    have HF:=Lib.hid (cmpV_3 h1 h2 h3)
    clear h1 h2 h3
    go_enter Tryz.func67,Tryz.ntmps67
    go_upto_region 1 with (fail)
    generalize ((w.alloc (.cells #[u.a,u.b,u.c,.slice A1 u.pre.length c1,.slice A2 u.build.length c2] 25)).alloc (.cells #[v.a,v.b,v.c,.slice B1 v.pre.length d1,.slice B2 v.build.length d2] 25))=W at HBa R1 Q1 K1 K2 ⊢
    obtain ⟨_,_,x0,x1,x2,x3,x4⟩:=K1.out
    obtain ⟨_,_,y0,y1,y2,y3,y4⟩:=K2.out
    go_wp2_with fail
    refine (refNums_any _ _ _).mono ?_
    rintro e w' ⟨rfl,rfl⟩
    go_wp2
    go_ret
    exact ⟨by rw [HF.out]; rfl,HBa.out⟩
  ·have e2:((u.b:Int) == (v.b:Int))=false:=by simp; omega
   have e2':((u.b:Int) != (v.b:Int))=true:=by simp; omega
   have HF:=Lib.hid (cmpV_2 h1 h2)
   clear h1 h2
   go_enter Tryz.func67,Tryz.ntmps67
   go_upto_region 1 with (fail)
   generalize ((w.alloc (.cells #[u.a,u.b,u.c,.slice A1 u.pre.length c1,.slice A2 u.build.length c2] 25)).alloc (.cells #[v.a,v.b,v.c,.slice B1 v.pre.length d1,.slice B2 v.build.length d2] 25))=W at HBa R1 Q1 K1 K2 ⊢
   obtain ⟨_,_,x0,x1,x2,x3,x4⟩:=K1.out
   obtain ⟨_,_,y0,y1,y2,y3,y4⟩:=K2.out
   go_wp2_with fail
   refine (refNums_any _ _ _).mono ?_
   rintro e w' ⟨rfl,rfl⟩
   go_wp2
   go_ret
   exact ⟨by rw [HF.out]; rfl,HBa.out⟩
 ·have e1:((u.a:Int) == (v.a:Int))=false:=by simp; omega
  have e1':((u.a:Int) != (v.a:Int))=true:=by simp; omega
  have HF:=Lib.hid (cmpV_1 h1)
  clear h1
  go_enter Tryz.func67,Tryz.ntmps67
  go_upto_region 1 with (fail)
  generalize ((w.alloc (.cells #[u.a,u.b,u.c,.slice A1 u.pre.length c1,.slice A2 u.build.length c2] 25)).alloc (.cells #[v.a,v.b,v.c,.slice B1 v.pre.length d1,.slice B2 v.build.length d2] 25))=W at HBa R1 Q1 K1 K2 ⊢
  obtain ⟨_,_,x0,x1,x2,x3,x4⟩:=K1.out
  obtain ⟨_,_,y0,y1,y2,y3,y4⟩:=K2.out
  go_wp2_with fail
  refine (refNums_any _ _ _).mono ?_
  rintro e w' ⟨rfl,rfl⟩
  go_wp2
  go_ret
  exact ⟨by rw [HF.out]; rfl,HBa.out⟩
end Go.Proofs.YtgfbflnhjpbceaaGreatDoor.Prec
