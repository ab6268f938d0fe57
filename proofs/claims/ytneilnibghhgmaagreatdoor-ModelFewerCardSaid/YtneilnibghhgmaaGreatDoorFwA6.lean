/-
  What the theorem of the last text needs of these: SpMath, RgMem, SvText. Conditions: as each theorem states.
-/
import Derived.Test.YtneilnibghhgmaaGreatDoorFwA1
import Derived.Test.YtneilnibghhgmaaGreatDoorFwA2
import Derived.Test.YtneilnibghhgmaaGreatDoorFwA3
import Derived.Test.YtneilnibghhgmaaGreatDoorFwA4
import Derived.Test.YtneilnibghhgmaaGreatDoorFwA5
import Derived.Deep.Draws
import Derived.Test.YtneilnibghhgmaaGreatDoorShelfBuild
set_option maxRecDepth 100000
set_option maxHeartbeats 25600000
namespace Go.Proofs.YtneilnibghhgmaaGreatDoor.Span
open Go.RowKit Num Ident Semver Prec

structure Cut where
 kind:Int
 v:Ver
deriving DecidableEq
structure Sp where
 lo:Cut
 hi:Cut
deriving DecidableEq
def low:Cut:=⟨0,noVer⟩
def high:Cut:=⟨3,noVer⟩
def ofVer (c:Cut):Bool:=decide (c.kind=1∨c.kind=2)
theorem ofVer_iff (c:Cut):ofVer c=true↔c.kind=1∨c.kind=2:=by simp [ofVer]
theorem ofVer_no (c:Cut):ofVer c=false↔¬ (c.kind=1∨c.kind=2):=by rw [← ofVer_iff]; cases ofVer c <;> simp
def right (c:Cut):Bool:=if c.kind=0∨c.kind=3 then sameV c.v noVer else if c.kind=1∨c.kind=2 then goodV c.v && decide (c.v.build.length=0) else false
theorem right_ends {c:Cut} (h:c.kind=0∨c.kind=3):right c=sameV c.v noVer:=by unfold right; rw [if_pos h]
theorem right_ver {c:Cut} (h:c.kind=1∨c.kind=2):right c=(goodV c.v && decide (c.v.build.length=0)):=by unfold right; rw [if_neg (by omega),if_pos h]
theorem right_none {c:Cut} (h1:¬ (c.kind=0∨c.kind=3)) (h2:¬ (c.kind=1∨c.kind=2)):right c=false:=by unfold right; rw [if_neg h1,if_neg h2]
def ordI (x y:Int):Int:=if x<y then -1 else if y<x then 1 else 0
theorem ordI_lt {x y:Int} (h:x<y):ordI x y=-1:=by unfold ordI; rw [if_pos h]
theorem ordI_gt {x y:Int} (h:y<x):ordI x y=1:=by unfold ordI; rw [if_neg (by omega),if_pos h]
theorem ordI_eq {x y:Int} (h:x=y):ordI x y=0:=by unfold ordI; rw [if_neg (by omega),if_neg (by omega)]
theorem ordI_cases (x y:Int):(x<y∧ordI x y=-1)∨(x=y∧ordI x y=0)∨(y<x∧ordI x y=1):=by
 rcases Int.lt_trichotomy x y with h | h | h
 ·exact .inl ⟨h,ordI_lt h⟩
 ·exact .inr (.inl ⟨h,ordI_eq h⟩)
 ·exact .inr (.inr ⟨h,ordI_gt h⟩)
theorem ordI_ordr:Ordr ordI:=by
 refine ⟨fun x y=>?_,fun x y z h1 h2=>?_⟩
 ·rcases ordI_cases x y with ⟨a,b⟩ | ⟨a,b⟩ | ⟨a,b⟩ <;> rcases ordI_cases y x with ⟨c,d⟩ | ⟨c,d⟩ | ⟨c,d⟩ <;> omega
 ·rcases ordI_cases x y with ⟨a,b⟩ | ⟨a,b⟩ | ⟨a,b⟩ <;> rcases ordI_cases y z with ⟨c,d⟩ | ⟨c,d⟩ | ⟨c,d⟩ <;> rcases ordI_cases x z with ⟨e,f⟩ | ⟨e,f⟩ | ⟨e,f⟩ <;> omega
def stand (a b:Cut):Int:=if ofVer a=true∧ofVer b=true∧cmpV a.v b.v≠0 then cmpV a.v b.v else ordI a.kind b.kind
def cmpC (a b:Cut):Int:=if right a=true∧right b=true then stand a b else ordI a.kind b.kind
theorem cmpC_right {a b:Cut} (h1:right a=true) (h2:right b=true):cmpC a b=stand a b:=by unfold cmpC; rw [if_pos ⟨h1,h2⟩]
def kc (c:Cut):Int:=if ofVer c=true then 1 else c.kind
def vk (c:Cut):Ver:=if ofVer c=true then c.v else noVer
theorem stand_lex (a b:Cut):stand a b=lex (fun x y=>ordI (kc x) (kc y)) (lex (fun x y=>cmpV (vk x) (vk y)) fun x y=>ordI x.kind y.kind) a b:=by
 unfold stand
 by_cases h1:ofVer a=true
 ·by_cases h2:ofVer b=true
  ·have e1:ordI (kc a) (kc b)=0:=ordI_eq (by unfold kc; rw [if_pos h1,if_pos h2])
   have e2:cmpV (vk a) (vk b)=cmpV a.v b.v:=by unfold vk; rw [if_pos h1,if_pos h2]
   refine Eq.trans ?_ (lex_yes (f:=fun x y=>ordI (kc x) (kc y)) e1).symm
   by_cases h3:cmpV a.v b.v=0
   ·rw [if_neg (fun h=>h.2.2 h3)]
    exact (lex_yes (f:=fun x y=>cmpV (vk x) (vk y)) (g:=fun x y:Cut=>ordI x.kind y.kind) (by show cmpV (vk a) (vk b)=0; rw [e2]; exact h3)).symm
   ·rw [if_pos ⟨h1,h2,h3⟩,← e2]
    exact (lex_no (f:=fun x y=>cmpV (vk x) (vk y)) (g:=fun x y:Cut=>ordI x.kind y.kind) (by show cmpV (vk a) (vk b)≠0; rw [e2]; exact h3)).symm
  ·rw [if_neg (fun h=>h2 h.2.1)]
   have ha:=(ofVer_iff a).1 h1
   have hb:=(ofVer_no b).1 (by simpa using h2)
   have e1:kc a=1:=by unfold kc; rw [if_pos h1]
   have e2:kc b=b.kind:=by unfold kc; rw [if_neg h2]
   have e3:ordI (kc a) (kc b)=ordI a.kind b.kind:=by
    rw [e1,e2]
    rcases ordI_cases 1 b.kind with ⟨c,d⟩ | ⟨c,d⟩ | ⟨c,d⟩ <;> rcases ordI_cases a.kind b.kind with ⟨e,f⟩ | ⟨e,f⟩ | ⟨e,f⟩ <;> omega
   refine Eq.trans e3.symm (lex_no (f:=fun x y=>ordI (kc x) (kc y)) ?_).symm
   show ordI (kc a) (kc b)≠0
   rw [e3]; rcases ordI_cases a.kind b.kind with ⟨e,f⟩ | ⟨e,f⟩ | ⟨e,f⟩ <;> omega
 ·rw [if_neg (fun h=>h1 h.1)]
  have ha:=(ofVer_no a).1 (by simpa using h1)
  have e1:kc a=a.kind:=by unfold kc; rw [if_neg h1]
  have e0:vk a=noVer:=by unfold vk; rw [if_neg h1]
  by_cases h2:ofVer b=true
  ·have hb:=(ofVer_iff b).1 h2
   have e2:kc b=1:=by unfold kc; rw [if_pos h2]
   have e3:ordI (kc a) (kc b)=ordI a.kind b.kind:=by
    rw [e1,e2]
    rcases ordI_cases a.kind 1 with ⟨c,d⟩ | ⟨c,d⟩ | ⟨c,d⟩ <;> rcases ordI_cases a.kind b.kind with ⟨e,f⟩ | ⟨e,f⟩ | ⟨e,f⟩ <;> omega
   refine Eq.trans e3.symm (lex_no (f:=fun x y=>ordI (kc x) (kc y)) ?_).symm
   show ordI (kc a) (kc b)≠0
   rw [e3]; rcases ordI_cases a.kind b.kind with ⟨e,f⟩ | ⟨e,f⟩ | ⟨e,f⟩ <;> omega
  ·have e2:kc b=b.kind:=by unfold kc; rw [if_neg h2]
   have e4:vk b=noVer:=by unfold vk; rw [if_neg h2]
   by_cases h3:ordI (kc a) (kc b)=0
   ·refine Eq.trans ?_ (lex_yes (f:=fun x y=>ordI (kc x) (kc y)) h3).symm
    exact (lex_yes (f:=fun x y=>cmpV (vk x) (vk y)) (g:=fun x y:Cut=>ordI x.kind y.kind) (by show cmpV (vk a) (vk b)=0; rw [e0,e4]; exact cmpV_ordr.self noVer)).symm
   ·refine Eq.trans ?_ (lex_no (f:=fun x y=>ordI (kc x) (kc y)) h3).symm
    show ordI a.kind b.kind=ordI (kc a) (kc b)
    rw [e1,e2]
theorem stand_ordr:Ordr stand:=by
 have h:stand=lex (fun x y=>ordI (kc x) (kc y)) (lex (fun x y=>cmpV (vk x) (vk y)) fun x y=>ordI x.kind y.kind):=by
  funext a b; exact stand_lex a b
 rw [h]
 exact (ordI_ordr.on kc).lex ((cmpV_ordr.on vk).lex (ordI_ordr.on Cut.kind))
theorem stand_flip (a b:Cut):stand b a=0 - stand a b:=stand_ordr.flip a b
theorem stand_self (a:Cut):stand a a=0:=stand_ordr.self a
theorem le_le {a b c:Cut} (h1:stand a b≤0) (h2:stand b c≤0):stand a c≤0:=stand_ordr.trans a b c h1 h2
theorem le_lt {a b c:Cut} (h1:stand a b≤0) (h2:stand b c<0):stand a c<0:=by
 have h3:=le_le h1 (show stand b c≤0 by omega)
 rcases Int.lt_or_eq_of_le h3 with h | h
 ·exact h
 ·have h4:=stand_flip a c
  have h5:=le_le (show stand c a≤0 by omega) h1
  have h6:=stand_flip b c
  omega
theorem lt_le {a b c:Cut} (h1:stand a b<0) (h2:stand b c≤0):stand a c<0:=by
 have h3:=le_le (show stand a b≤0 by omega) h2
 rcases Int.lt_or_eq_of_le h3 with h | h
 ·exact h
 ·have h4:=stand_flip a c
  have h5:=le_le h2 (show stand c a≤0 by omega)
  have h6:=stand_flip a b
  omega
theorem lt_lt {a b c:Cut} (h1:stand a b<0) (h2:stand b c<0):stand a c<0:=le_lt (by omega) h2
theorem not_lt {a b:Cut} (h:¬ stand a b<0):stand b a≤0:=by have:=stand_flip a b; omega
theorem not_le {a b:Cut} (h:¬ stand a b≤0):stand b a<0:=by have:=stand_flip a b; omega
theorem lt_not {a b:Cut} (h:stand a b<0):¬ stand b a≤0:=by have:=stand_flip a b; omega
theorem le_not {a b:Cut} (h:stand a b≤0):¬ stand b a<0:=by have:=stand_flip a b; omega
theorem like_flip {a b:Cut} (h:stand a b=0):stand b a=0:=by have:=stand_flip a b; omega

def inOne (s:Sp) (c:Cut):Prop:=stand s.lo c≤0∧stand c s.hi<0
def inS (l:List Sp) (c:Cut):Prop:=∃ s ∈ l,inOne s c
def cnt (s:Sp):Bool:=right s.lo && (right s.hi && decide (stand s.lo s.hi<0))
theorem cnt_iff (s:Sp):cnt s=true↔right s.lo=true∧right s.hi=true∧stand s.lo s.hi<0:=by simp [cnt]
def inR (l:List Sp) (c:Cut):Prop:=∃ s ∈ l,cnt s=true∧inOne s c
structure Norm (l:List Sp):Prop where
 cnt:∀ s ∈ l,cnt s=true
 gap:l.Pairwise fun s t=>stand s.hi t.lo<0
theorem Norm.nil:Norm []:=⟨(fun s h=>by cases h),List.Pairwise.nil⟩
theorem Norm.tail {s:Sp} {l:List Sp} (h:Norm (s :: l)):Norm l:=⟨fun t ht=>h.cnt t (List.mem_cons_of_mem _ ht),(List.pairwise_cons.1 h.gap).2⟩
theorem Norm.ahead {s:Sp} {l:List Sp} (h:Norm (s :: l)):∀ t ∈ l,stand s.hi t.lo<0:=(List.pairwise_cons.1 h.gap).1
theorem Norm.inR {l:List Sp} (h:Norm l) (c:Cut):inR l c↔inS l c:=⟨fun ⟨s,hs,_,hi⟩=>⟨s,hs,hi⟩,fun ⟨s,hs,hi⟩=>⟨s,hs,h.cnt s hs,hi⟩⟩
inductive Like:List Sp→List Sp→Prop
 | nil:Like [] []
 | cons {s t:Sp} {l m:List Sp}:stand s.lo t.lo=0→stand s.hi t.hi=0→Like l m→Like (s :: l) (t :: m)

theorem sameV_none {v:Ver} (h:sameV v noVer=true):v=noVer:=by
 unfold sameV at h
 rw [Bool.and_eq_true,decide_eq_true_eq,Bool.and_eq_true,sameB_iff,sameB_iff] at h
 obtain ⟨⟨h1,h2,h3⟩,h4,h5⟩:=h
 cases v; simp only [noVer] at *; subst h1; subst h2; subst h3; subst h4; subst h5; rfl
theorem good_len (pre:Bool):∀ (xs:List (List UInt8)) (i:Nat),i≤16→goodFrom pre xs i=true→i+xs.length≤16
 | [],i,hi,_=>by simpa using hi
 | x :: r,i,hi,h=>by
  rw [goodFrom] at h
  simp only [Bool.and_eq_true,beq_iff_eq] at h
  have h1:=(fault_pos h.1.1).2.2
  have:=good_len pre r (i+1) (by omega) h.2
  simp; omega
theorem right_few {c:Cut} (h:right c=true):c.v.pre.length≤16∧c.v.build=[]:=by
 by_cases h1:c.kind=0∨c.kind=3
 ·rw [right_ends h1] at h
  rw [sameV_none h]; exact ⟨by simp [noVer],rfl⟩
 ·by_cases h2:c.kind=1∨c.kind=2
  ·rw [right_ver h2,Bool.and_eq_true,decide_eq_true_eq] at h
   refine ⟨?_,List.eq_nil_of_length_eq_zero h.2⟩
   have hg:=h.1
   unfold goodV at hg
   rw [Bool.and_eq_true,Bool.and_eq_true] at hg
   have:=good_len true c.v.pre 0 (by omega) hg.2.1
   omega
  ·rw [right_none h1 h2] at h; cases h
theorem right_bare {c:Cut} (h:right c=true):bare c.v=c.v:=by
 have:=(right_few h).2
 unfold bare; rw [← this]
theorem low_right:right low=true:=by rw [right_ends (.inl rfl)]; exact sameV_self noVer
theorem high_right:right high=true:=by rw [right_ends (.inr rfl)]; exact sameV_self noVer
theorem low_high:stand low high<0:=by
 unfold stand; rw [if_neg (by rintro ⟨h,_⟩; exact absurd h (by decide))]; exact (show (-1:Int)<0 by omega)
theorem right_kind {c:Cut} (h:right c=true):c.kind=0∨c.kind=1∨c.kind=2∨c.kind=3:=by
 by_cases h1:c.kind=0∨c.kind=3
 ·omega
 ·by_cases h2:c.kind=1∨c.kind=2
  ·omega
  ·rw [right_none h1 h2] at h; cases h
theorem stand_kind {a b:Cut} (h:¬ (ofVer a=true∧ofVer b=true)):stand a b=ordI a.kind b.kind:=by
 unfold stand; rw [if_neg (fun k=>h ⟨k.1,k.2.1⟩)]
theorem low_le {c:Cut} (h:right c=true):stand low c≤0:=by
 rw [stand_kind (by rintro ⟨h,_⟩; exact absurd h (by decide))]
 have:=right_kind h
 have e:low.kind=0:=rfl
 rcases ordI_cases low.kind c.kind with ⟨a,b⟩ | ⟨a,b⟩ | ⟨a,b⟩ <;> omega
theorem le_high {c:Cut} (h:right c=true):stand c high≤0:=by
 rw [stand_kind (by rintro ⟨_,h⟩; exact absurd h (by decide))]
 have:=right_kind h
 have e:high.kind=3:=rfl
 rcases ordI_cases c.kind high.kind with ⟨a,b⟩ | ⟨a,b⟩ | ⟨a,b⟩ <;> omega

def aheadOf (v:Ver):Cut:=⟨1,bare v⟩
def behindOf (v:Ver):Cut:=⟨2,bare v⟩
theorem ahead_behind (v:Ver):stand (aheadOf v) (behindOf v)<0:=by
 have h:cmpV (bare v) (bare v)=0:=cmpV_ordr.self _
 unfold stand
 rw [if_neg (fun k=>k.2.2 h)]; exact (show (-1:Int)<0 by omega)
theorem behind_le (c:Cut) (v:Ver):stand (aheadOf v) c<0↔stand (behindOf v) c≤0:=by
 constructor
 ·intro hc
  by_cases hv:ofVer c=true
  ·have hk:=(ofVer_iff c).1 hv
   by_cases h0:cmpV (bare v) c.v=0
   ·have e1:stand (aheadOf v) c=ordI 1 c.kind:=by unfold stand; rw [if_neg (fun k=>k.2.2 h0)]; rfl
    have e2:stand (behindOf v) c=ordI 2 c.kind:=by unfold stand; rw [if_neg (fun k=>k.2.2 h0)]; rfl
    rw [e1] at hc
    rw [e2]
    rcases ordI_cases 1 c.kind with ⟨a,b⟩ | ⟨a,b⟩ | ⟨a,b⟩ <;> rcases ordI_cases 2 c.kind with ⟨e,f⟩ | ⟨e,f⟩ | ⟨e,f⟩ <;> omega
   ·have e1:stand (aheadOf v) c=cmpV (bare v) c.v:=by unfold stand; rw [if_pos ⟨rfl,hv,h0⟩]; rfl
    have e2:stand (behindOf v) c=cmpV (bare v) c.v:=by unfold stand; rw [if_pos ⟨rfl,hv,h0⟩]; rfl
    omega
  ·have hk:=(ofVer_no c).1 (by simpa using hv)
   rw [stand_kind (fun k=>hv k.2)] at hc ⊢
   have e1:(aheadOf v).kind=1:=rfl
   have e2:(behindOf v).kind=2:=rfl
   rcases ordI_cases (aheadOf v).kind c.kind with ⟨a,b⟩ | ⟨a,b⟩ | ⟨a,b⟩ <;> rcases ordI_cases (behindOf v).kind c.kind with ⟨e,f⟩ | ⟨e,f⟩ | ⟨e,f⟩ <;> omega
 ·intro hc
  exact lt_le (ahead_behind v) hc

end Go.Proofs.YtneilnibghhgmaaGreatDoor.Span
namespace Go.Proofs.YtneilnibghhgmaaGreatDoor.Range
open Go.RowKit Num Ident Semver

structure Keep (w w':World):Prop where
 size:w.heap.size≤w'.heap.size
 cell:∀ g o v,w.cell? ⟨g,o,none⟩=some v→((∀ x,v≠.int .i64 x)∨(w.cell? ⟨g,o+1,none⟩).isSome=true)→w'.cell? ⟨g,o,none⟩=some v
theorem block_lt {w:World} {g o:Nat} {v:Value} (h:w.cell? ⟨g,o,none⟩=some v):g<w.heap.size:=World.block_lt_of_cell? w _ h

structure Rd (w:World) (b:Nat) (A:Option Addr) (n c p:Nat):Prop where
 lt:b<w.heap.size
 open_:∀ o,w.frozen? ⟨b,o,none⟩=false
 row:w.cell? ⟨b,0,none⟩=some (.slice A n c)
 at_:w.cell? ⟨b,1,none⟩=some (.int .i64 p)
 end_:w.cell? ⟨b,2,none⟩=none
structure Moved (b:Nat) (w w':World):Prop where
 os:w'.os=w.os
 tape:w'.tape=w.tape
 output:w'.output=w.output
 size:w.heap.size≤w'.heap.size
 block:∀ k,k<w.heap.size→k≠b→w'.heap[k]?=w.heap[k]?
 cell:∀ o,o≠1→w'.cell? ⟨b,o,none⟩=w.cell? ⟨b,o,none⟩
 frozen:∀ o,w'.frozen? ⟨b,o,none⟩=w.frozen? ⟨b,o,none⟩

structure KeepS (S:Nat→Prop) (w w':World):Prop where
 size:w.heap.size≤w'.heap.size
 cell:∀ g o v,S g→w.cell? ⟨g,o,none⟩=some v→w'.cell? ⟨g,o,none⟩=some v
theorem KeepS.of_below {w w':World} {S:Nat→Prop} (h:Below w.heap.size w w'):KeepS S w w':=⟨h.size,fun g o _ _ hc=>(h.cell (p:=⟨g,o,none⟩) (block_lt hc)).trans hc⟩
theorem KeepS.alloc {S:Nat→Prop} (w:World) (o:Obj):KeepS S w (w.alloc o):=KeepS.of_below ((Below.refl _ _).alloc (Nat.le_refl _) o)
def InS (S:Nat→Prop) (A:Option Addr) (n:Nat):Prop:=0<n→∃ b o,A=some ⟨b,o,none⟩∧S b
theorem InS.none_ (S:Nat→Prop) (A:Option Addr):InS S A 0:=fun h=>absurd h (Nat.lt_irrefl _)
theorem srow_keepS {w w':World} {S:Nat→Prop} {A:Option Addr} {n:Nat} {xs:List (List UInt8)} (h:SRow w A n xs) (k:KeepS S w w') (hs:InS S A n):SRow w' A n xs:=by
 refine ⟨h.1,fun h0=>?_⟩
 obtain ⟨b,o,e,hlt,hc⟩:=h.2 h0
 obtain ⟨b',o',e',hb⟩:=hs h0
 rw [e] at e'
 injection e' with e'
 injection e' with e1 e2
 subst e1
 exact ⟨b,o,e,Nat.lt_of_lt_of_le hlt k.size,fun j hj=>k.cell _ _ _ hb (hc j hj)⟩
theorem InS.mono {S S':Nat→Prop} {w:World} {A:Option Addr} {n:Nat} {xs:List (List UInt8)} (h:InS S A n) (hr:SRow w A n xs) (hS:∀ b,S b→b<w.heap.size→S' b):InS S' A n:=fun h0=>by
 obtain ⟨b,o,e,hb⟩:=h h0
 obtain ⟨b',o',e',hlt,_⟩:=hr.2 h0
 rw [e] at e'
 injection e' with e'
 injection e' with e1 e2
 subst e1
 exact ⟨b,o,e,hS b hb hlt⟩
structure FitV (v:Ver):Prop where
 a:v.a<18446744073709551616
 b:v.b<18446744073709551616
 c:v.c<18446744073709551616
 pre:v.pre.length≤maxLen
 build:v.build.length≤maxLen
 pres:∀ x ∈ v.pre,x.length≤maxLen
 builds:∀ x ∈ v.build,x.length≤maxLen
theorem FitV.none:FitV noVer:=⟨by decide,by decide,by decide,Nat.zero_le _,Nat.zero_le _,(fun x h=>by cases h),(fun x h=>by cases h)⟩
structure RV where
 kind:Int
 v:Ver
 A:Option Addr
 c:Nat
 B:Option Addr
 d:Nat
 L:Option Addr
 n:Nat
 e:Nat
instance:Coe RV Value:=⟨fun x=>.agg #[.int .i64 x.kind,.int .u64 x.v.a,.int .u64 x.v.b,.int .u64 x.v.c,.slice x.A x.v.pre.length x.c,.slice x.B x.v.build.length x.d,.slice x.L x.n x.e]⟩
instance:Coe RV Obj:=⟨fun x=>.cells #[.int .i64 x.kind,.int .u64 x.v.a,.int .u64 x.v.b,.int .u64 x.v.c,.slice x.A x.v.pre.length x.c,.slice x.B x.v.build.length x.d,.slice x.L x.n x.e] 59⟩
instance:Inhabited RV:=⟨⟨0,noVer,none,0,none,0,none,0,0⟩⟩
def RV.vals (x:RV):List Value:=[.int .i64 x.kind,.int .u64 x.v.a,.int .u64 x.v.b,.int .u64 x.v.c,.slice x.A x.v.pre.length x.c,.slice x.B x.v.build.length x.d,.slice x.L x.n x.e]
theorem rv_one (x:RV):∀ u ∈ x.vals,u.oneCell'=true:=by
 intro u hu; simp only [RV.vals,List.mem_cons,List.mem_nil_iff,or_false] at hu
 rcases hu with rfl | rfl | rfl | rfl | rfl | rfl | rfl <;> rfl
def CellsAt (w:World) (b o:Nat) (x:RV):Prop:=∀ i u,x.vals[i]?=some u→w.cell? ⟨b,o+i,none⟩=some u
theorem CellsAt.keep {w w':World} {S:Nat→Prop} {b o:Nat} {x:RV} (h:CellsAt w b o x) (k:KeepS S w w') (hb:S b):CellsAt w' b o x:=fun i u hu=>k.cell _ _ _ hb (h i u hu)
theorem CellsAt.lt {w:World} {b o:Nat} {x:RV} (h:CellsAt w b o x):b<w.heap.size:=block_lt (h 0 _ rfl)
inductive Lies (w:World) (S:Nat→Prop):Rng→RV→Prop
 | mk (x:RV) (l:List Rng) (f:Nat→RV) (hn:x.n=l.length) (he:x.n≤x.e) (pre:SRow w x.A x.v.pre.length x.v.pre) (build:SRow w x.B x.v.build.length x.v.build) (ip:InS S x.A x.v.pre.length) (ib:InS S x.B x.v.build.length) (cp:x.v.pre.length≤x.c) (cb:x.v.build.length≤x.d)
   (fit:FitV x.v) (nil:x.L=none→x.e=0)
   (cells:0<x.n→∃ b o,x.L=some ⟨b,o,none⟩∧S b∧∀ j,j<x.n→CellsAt w b (o+j * 7) (f j)) (subs:∀ j,j<x.n→Lies w S (l.getD j noRng) (f j)):Lies w S (.mk x.kind x.v l) x
theorem Lies.keep {w w':World} {S:Nat→Prop} {r:Rng} {x:RV} (h:Lies w S r x) (k:KeepS S w w'):Lies w' S r x:=by
 induction h with
 | mk x l f hn he pre build ip ib cp cb fit nil cells _ ih =>
  refine Lies.mk x l f hn he (srow_keepS pre k ip) (srow_keepS build k ib) ip ib cp cb fit nil (fun h0=>?_) ih
  obtain ⟨b,o,e,hb,hc⟩:=cells h0
  exact ⟨b,o,e,hb,fun j hj=>(hc j hj).keep k hb⟩
theorem Lies.mono {w:World} {S S':Nat→Prop} {r:Rng} {x:RV} (h:Lies w S r x) (hS:∀ b,S b→b<w.heap.size→S' b):Lies w S' r x:=by
 induction h with
 | mk x l f hn he pre build ip ib cp cb fit nil cells _ ih =>
  refine Lies.mk x l f hn he pre build (ip.mono pre hS) (ib.mono build hS) cp cb fit nil (fun h0=>?_) ih
  obtain ⟨b,o,e,hb,hc⟩:=cells h0
  exact ⟨b,o,e,hS b hb (hc 0 h0).lt,hc⟩
def RgRow (w:World) (S:Nat→Prop) (L:Option Addr) (n:Nat) (l:List Rng):Prop :=
 ∃ f:Nat→RV,l.length=n∧(0<n→∃ b o,L=some ⟨b,o,none⟩∧S b∧∀ j,j<n→CellsAt w b (o+j * 7) (f j))∧∀ j,j<n→Lies w S (l.getD j noRng) (f j)
theorem RgRow.keep {w w':World} {S:Nat→Prop} {L:Option Addr} {n:Nat} {l:List Rng} (h:RgRow w S L n l) (k:KeepS S w w'):RgRow w' S L n l:=by
 obtain ⟨f,h1,h2,h3⟩:=h
 refine ⟨f,h1,fun h0=>?_,fun j hj=>(h3 j hj).keep k⟩
 obtain ⟨b,o,e,hb,hc⟩:=h2 h0
 exact ⟨b,o,e,hb,fun j hj=>(hc j hj).keep k hb⟩
structure Says (w:World) (S:Nat→Prop) (r:Rng) (x:RV):Prop where
 kind:r.kind=x.kind
 ver:r.ver=x.v
 pre:SRow w x.A x.v.pre.length x.v.pre
 build:SRow w x.B x.v.build.length x.v.build
 ip:InS S x.A x.v.pre.length
 ib:InS S x.B x.v.build.length
 cp:x.v.pre.length≤x.c
 cb:x.v.build.length≤x.d
 fit:FitV x.v
 nil:x.L=none→x.e=0
 cap:x.n≤x.e
 subs:RgRow w S x.L x.n r.subs
theorem Lies.says {w:World} {S:Nat→Prop} {r:Rng} {x:RV} (h:Lies w S r x):Says w S r x:=by
 cases h with
 | mk x l f hn he pre build ip ib cp cb fit nil cells subs=>exact ⟨rfl,rfl,pre,build,ip,ib,cp,cb,fit,nil,he,⟨f,hn.symm,cells,subs⟩⟩
theorem Lies.version {w:World} {S:Nat→Prop} (kind:Int) (v:Ver) (A:Option Addr) (c:Nat) (B:Option Addr) (d:Nat) (pre:SRow w A v.pre.length v.pre) (build:SRow w B v.build.length v.build) (ip:InS S A v.pre.length) (ib:InS S B v.build.length) (cp:v.pre.length≤c) (cb:v.build.length≤d) (fit:FitV v) :
  Lies w S (.mk kind v []) ⟨kind,v,A,c,B,d,none,0,0⟩ :=
 Lies.mk ⟨kind,v,A,c,B,d,none,0,0⟩ [] (fun _=>default) rfl (Nat.le_refl _) pre build ip ib cp cb fit (fun _=>rfl) (fun h=>absurd h (Nat.lt_irrefl _)) (fun _ hj=>absurd hj (Nat.not_lt_zero _))
def zeroRV (kind:Int):RV:=⟨kind,noVer,none,0,none,0,none,0,0⟩
theorem Lies.zero (w:World) (S:Nat→Prop) (kind:Int):Lies w S (.mk kind noVer []) (zeroRV kind) :=
 Lies.version kind noVer none 0 none 0 (SRow.none_ _ _) (SRow.none_ _ _) (InS.none_ _ _) (InS.none_ _ _) (Nat.le_refl _) (Nat.le_refl _) FitV.none
def RV.agg (x:RV):Value:=.agg #[x.kind,x.v.a,x.v.b,x.v.c,.slice x.A x.v.pre.length x.c,.slice x.B x.v.build.length x.d,.slice x.L x.n x.e]
theorem CellsAt.cells {w:World} {b o:Nat} {x:RV} (h:CellsAt w b o x):w.cell? ⟨b,o,none⟩=some (.int .i64 x.kind)∧w.cell? ⟨b,o+1,none⟩=some (.int .u64 x.v.a)∧w.cell? ⟨b,o+2,none⟩=some (.int .u64 x.v.b)∧w.cell? ⟨b,o+3,none⟩=some (.int .u64 x.v.c)∧w.cell? ⟨b,o+4,none⟩=some (.slice x.A x.v.pre.length x.c)∧w.cell? ⟨b,o+5,none⟩=some (.slice x.B x.v.build.length x.d)∧w.cell? ⟨b,o+6,none⟩=some (.slice x.L x.n x.e) :=
 ⟨h 0 _ rfl,h 1 _ rfl,h 2 _ rfl,h 3 _ rfl,h 4 _ rfl,h 5 _ rfl,h 6 _ rfl⟩
structure Pl (l:List UInt8) (p:Nat) (s:List UInt8):Prop where
 le:p≤l.length
 eq:s=l.drop p
def RAt (W:World) (g:Nat) (x:RV):Prop:=At7 W g x.kind x.v.a x.v.b x.v.c (.slice x.A x.v.pre.length x.c) (.slice x.B x.v.build.length x.d) (.slice x.L x.n x.e)
theorem RAt.new (w:World) (t:TypeId) (x:RV):RAt (w.alloc (.cells #[x.kind,x.v.a,x.v.b,x.v.c,.slice x.A x.v.pre.length x.c,.slice x.B x.v.build.length x.d,.slice x.L x.n x.e] t)) w.heap.size x:=At7.new w t _ _ _ _ _ _ _
theorem RAt.kept {W W':World} {g B:Nat} {x:RV} (h:RAt W g x) (hb:Below B W W') (hB:g<B):RAt W' g x:=At7.kept h hb hB
end Go.Proofs.YtneilnibghhgmaaGreatDoor.Range
namespace Go.Proofs.YtneilnibghhgmaaGreatDoor.Semver
open Go.RowKit Num Ident

def Bld (w:World) (B b:Nat) (l:List UInt8):Prop:=Lib.IsBuilderF 145 5 B b (Lib.byteCells l) w
theorem Bld.new (w:World) (B:Nat) (h:B≤w.heap.size):Bld (w.alloc (.cells #[.pointer none,.slice none 0 0] 145)) B w.heap.size []:=by
 refine .inl ⟨h,.slice none 0 0,?_,World.ownsRowF_nil _ _ _ _,by simp [Value.ownBlock]⟩
 show (w.heap.push _)[w.heap.size]?=_
 simp
theorem atF_kept {w w':World} {B b:Nat} {p:Value} {bs:List Value} (h:Lib.BuilderAtF 145 5 B b p bs w) (hb:Below w.heap.size w w'):Lib.BuilderAtF 145 5 B b p bs w':=by
 obtain ⟨h1,v,h2,h3,h4⟩:=h
 have lt:∀ k o,w.heap[k]?=some o→k<w.heap.size:=fun k o hk=>(Array.getElem?_eq_some_iff.1 hk).1
 refine ⟨h1,v,(hb.block b (lt b _ h2)).trans h2,⟨h3.1,?_⟩,h4⟩
 rcases h3.2 with h5 | ⟨g,cap,cur,fz,e1,e2,e3,e4⟩
 ·exact .inl h5
 ·exact .inr ⟨g,cap,cur,fz,e1,e2,(hb.block g (lt g _ e3)).trans e3,e4⟩
theorem Bld.kept {w w':World} {B b:Nat} {l:List UInt8} (h:Bld w B b l) (hb:Below w.heap.size w w'):Bld w' B b l :=
 h.elim (fun x=>.inl (atF_kept x hb)) (fun x=>.inr (atF_kept x hb))
theorem others_below {w w':World} {b:Option Nat} (hb:Below w.heap.size w w'):Lib.OthersKept 5 b w w' :=
 fun k _ hk _ _=>(hb.block k (Array.getElem?_eq_some_iff.1 hk).1).trans hk
theorem byteCells_length (l:List UInt8):(Lib.byteCells l).length=l.length:=by simp [Lib.byteCells]
theorem byteCells_append (l r:List UInt8):Lib.byteCells (l ++ r)=Lib.byteCells l ++ Lib.byteCells r:=by simp [Lib.byteCells]
def Wrote (w:World) (B b:Nat) (l:List UInt8) (w':World):Prop:=Bld w' B b l∧Below B w w'∧Lib.OthersKept 5 (some b) w w'
theorem writeByte_any (B b:Nat) (l:List UInt8) (c:UInt8) (m:Int) (hm:m=(c.toNat:Int)) (w:World) (h:Bld w B b l) (hl:l.length≤100000000) (hBw:B≤w.heap.size) :
  Calls Tryz.prog 105 #[.pointer (some ⟨b,0,none⟩),.int .u8 m] w fun e w'=>e=.returned .nilIface∧Wrote w B b (l ++ [c]) w':=by
 subst hm
 refine (Tryz.writeByte B b (Lib.byteCells l) (c.toNat:Int) w h (by rw [byteCells_length]; omega) hBw).mono ?_
 rintro e w' ⟨rfl,h1,h2,h3⟩
 exact ⟨rfl,.inr (by rw [byteCells_append]; exact h1),h2,h3⟩
theorem writeString_any (B b:Nat) (l t:List UInt8) (w:World) (h:Bld w B b l) (hl:l.length≤100000000) (ht:t.length≤100000000) (hBw:B≤w.heap.size) :
  Calls Tryz.prog 103 #[.pointer (some ⟨b,0,none⟩),.string (mk t)] w fun e w'=>e=.returned (.tuple #[.int .i64 (mk t).size,.nilIface])∧Wrote w B b (l ++ t) w':=by
 refine (Tryz.writeString B b (Lib.byteCells l) (mk t) w h (by rw [byteCells_length,mk_size]; omega) hBw).mono ?_
 rintro e w' ⟨rfl,h1,h2,h3⟩
 exact ⟨rfl,.inr (by rw [byteCells_append]; exact h1),h2,h3⟩
theorem writeRow_any (B b:Nat) (l:List UInt8) (A:Option Addr) (n c:Nat) (xs:List (List UInt8)) (mb:UInt8) (m:Int) (hm:m=(mb.toNat:Int)) (w0 w:World) (h:Bld w B b l) (hl:l.length≤100000) (hBw:B≤w.heap.size)
  (hr:SRow w0 A n xs) (hb0:Below w0.heap.size w0 w) (hB0:w0.heap.size≤B) (hc:n≤c) (hs:shortB xs=true) :
  Calls Tryz.prog 106 #[.pointer (some ⟨b,0,none⟩),.slice A n c,.int .u8 m] w fun e w'=>e=.returned (.tuple #[])∧Wrote w B b (l ++ rowText mb xs) w':=by
 have hn:=hr.1
 have hn40:n≤40:=by have:=((shortB_iff xs).1 hs).1; omega
 have HN:=Lib.hid hn; clear hn
 by_cases h0:n=0
 ·have HF:=Lib.hid (rowText_none (m:=mb) (xs:=xs) (by rw [HN.out]; exact h0))
  subst h0
  have H:=Lib.hid h
  clear h hr hm
  go_enter Tryz.func106,Tryz.ntmps106
  go_wp2
  go_end0
  exact ⟨rfl,by rw [HF.out,List.append_nil]; exact ⟨H.out,Below.refl _ _,Lib.OthersKept.refl _ _ _⟩⟩
 ·have HF:=Lib.hid (rowText_some (m:=mb) (xs:=xs) (by rw [HN.out]; exact h0))
  have HJ:=Lib.hid (short_joined hs)
  have H:=Lib.hid h
  have HR:=Lib.hid hr
  have HB0:=Lib.hid hb0
  have HS:=Lib.hid hs
  have HM:=Lib.hid hm
  have hpos:0<n:=by omega
  clear h hr hb0 hs h0 hm
  go_enter Tryz.func106,Tryz.ntmps106
  go_wp2_with fail
  refine (writeByte_any B b l mb m HM.out _ H.out (by omega) hBw).mono ?_
  rintro e w1 ⟨rfl,h1,hb1,hk1⟩
  have H1:=Lib.hid h1
  have HB1:=Lib.hid hb1
  have HK1:=Lib.hid hk1
  have HW1:=Lib.hid (HB0.out.trans (hb1.mono hB0))
  have hz1:=hb1.size
  clear h1 hb1 hk1
  go_wp2_with fail
  refine (Ident.text_any _ _ _ xs _ (HR.out.kept HW1.out) hc HS.out).mono ?_
  rintro e w2 ⟨rfl,hb2⟩
  have H2:=Lib.hid (H1.out.kept hb2)
  have HB2:=Lib.hid (HB1.out.trans (hb2.mono (by omega)))
  have HK2:=Lib.hid (HK1.out.trans (others_below (b:=some b) hb2))
  have hz2:=hb2.size
  clear hb2
  go_wp2_with fail
  refine (writeString_any B b (l ++ [mb]) (joined xs) _ H2.out (by rw [List.length_append]; simp; omega) (by have:=HJ.out; omega) (by omega)).mono ?_
  rintro e w3 ⟨rfl,h3,hb3,hk3⟩
  have H3:=Lib.hid h3
  have HB3:=Lib.hid (HB2.out.trans hb3)
  have HK3:=Lib.hid (HK2.out.trans hk3)
  clear h3 hb3 hk3
  go_wp2
  go_end0
  exact ⟨rfl,by rw [HF.out,← List.append_assoc]; exact ⟨H3.out,HB3.out,HK3.out⟩⟩
def TextAt (w:World) (v:Ver) (i:Nat) (w':World):Prop :=
 (i=0∧Bld w' (w.heap.size+1) (w.heap.size+1) [])∨(i=1∧Bld w' (w.heap.size+1) (w.heap.size+1) ([] ++ Lib.decDigits v.a ++ [46]))∨(i=2∧Bld w' (w.heap.size+1) (w.heap.size+1) ([] ++ Lib.decDigits v.a ++ [46] ++ Lib.decDigits v.b ++ [46]))
def TextJ (w:World) (v:Ver) (A:Option Addr) (c:Nat) (B:Option Addr) (d:Nat) (a':Act) (w':World):Prop :=
 ∃ (i bc:Nat) (u6 u7 u8 u9 u10 u11 u12 u13 u14 u15 u16 u17 u18 u19 u20 u21 u22 u23 u24:Value),Below w.heap.size w w'∧At5 w' w.heap.size v.a v.b v.c (.slice A v.pre.length c) (.slice B v.build.length d)∧w'.heap[bc]?=some (.cells #[v.a,v.b,v.c] 123)∧w.heap.size+1<bc∧TextAt w v i w' ∧
  a'={ tmps:=#[.agg #[v.a,v.b,v.c,.slice A v.pre.length c,.slice B v.build.length d],.pointer (some ⟨w.heap.size,0,none⟩),.string ⟨#[]⟩,.pointer (some ⟨w.heap.size+1,0,none⟩),.pointer (some ⟨bc,0,none⟩),.int .i64 i,u6,u7,u8,u9,u10,u11,u12,u13,u14,u15,u16,u17,u18,u19,u20,u21,u22,u23,u24],defers:=[] }
def TextM (a':Act) (_:World):Nat:=3 - (intOf (a'.tmps.getD 5 undef)).toNat
theorem vtext_any (v:Ver) (A:Option Addr) (c:Nat) (B:Option Addr) (d:Nat) (w:World) (ha:v.a<18446744073709551616) (hb:v.b<18446744073709551616) (hc:v.c<18446744073709551616)
  (hr1:SRow w A v.pre.length v.pre) (hr2:SRow w B v.build.length v.build) (hc1:v.pre.length≤c) (hc2:v.build.length≤d) (hs1:shortB v.pre=true) (hs2:shortB v.build=true) (htab:Tab w) :
  Calls Tryz.prog 68 #[.agg #[v.a,v.b,v.c,.slice A v.pre.length c,.slice B v.build.length d]] w fun e w'=>e=.returned (.string (mk (vtext v)))∧Below w.heap.size w w':=by
 have Ha:=Lib.hid ha
 have Hb:=Lib.hid hb
 have Hc:=Lib.hid hc
 have HDa:=Lib.hid (dec_le v.a ha)
 have HDb:=Lib.hid (dec_le v.b hb)
 have HDc:=Lib.hid (dec_le v.c hc)
 have HR1:=Lib.hid hr1
 have HR2:=Lib.hid hr2
 have HS1:=Lib.hid hs1
 have HS2:=Lib.hid hs2
 have HP1:=Lib.hid (rowText_le (m:=45) hs1)
 have HTab:=Lib.hid htab
 clear ha hb hc hr1 hr2 hs1 hs2 htab
 go_enter Tryz.func68,Tryz.ntmps68
 go_wp2
 refine wp_scope_back 0 (TextJ w v A c B d) TextM rfl ?_ ?_
 ·rintro a' w0 ⟨i,bc,u6,u7,u8,u9,u10,u11,u12,u13,u14,u15,u16,u17,u18,u19,u20,u21,u22,u23,u24,hbel,h5,hheap,hbc,hat,rfl⟩
  have HB:=Lib.hid hbel
  have H5:=Lib.hid h5
  have HC:=Lib.hid hheap
  have hz0:=h5.1
  have hzc:bc<w0.heap.size:=(Array.getElem?_eq_some_iff.1 hheap).1
  have hx0:w0.cell? ⟨bc,0,none⟩=some (.int .u64 v.a):=by rw [Lib.cell_of_heap hheap]; rfl
  have hx1:w0.cell? ⟨bc,1,none⟩=some (.int .u64 v.b):=by rw [Lib.cell_of_heap hheap]; rfl
  have hx2:w0.cell? ⟨bc,2,none⟩=some (.int .u64 v.c):=by rw [Lib.cell_of_heap hheap]; rfl
  clear hbel h5 hheap
  rcases hat with ⟨rfl,hl⟩ | ⟨rfl,hl⟩ | ⟨rfl,hl⟩
  ·have HL:=Lib.hid hl; clear hl
   have hlen:([]:List UInt8).length≤1000:=by simp only [List.length_nil]; omega
   have ht:=HTab.out.kept HB.out
   have HT:=Lib.hid ht; clear ht
   go_wp2_with fail
   refine (Num.text_any v.a Ha.out _ HT.out).mono ?_
   rintro e w1 ⟨rfl,hb1⟩
   have hz1:=hb1.size
   have L1:=Lib.hid (HL.out.kept hb1)
   have K1:=Lib.hid ((hb1.block bc (Array.getElem?_eq_some_iff.1 HC.out).1).trans HC.out)
   have Q1:=Lib.hid (H5.out.kept hb1 (by omega))
   have B1:=Lib.hid (HB.out.trans (hb1.mono (by omega)))
   clear hb1 HT HL HC H5 hx0 hx1 hx2
   go_wp2_with fail
   refine (writeString_any _ _ _ (Lib.decDigits v.a) _ L1.out (by have:=hlen; omega) (by have:=HDa.out; omega) (by omega)).mono ?_
   rintro e w2 ⟨rfl,l2,hb2,hk2⟩
   have hz2:=hb2.size
   have L2:=Lib.hid l2
   have K2:=Lib.hid (hk2 _ _ K1.out (by simp; omega) (by intro c fz e; injection e with _ e; exact absurd e (by decide)))
   have Q2:=Lib.hid (Q1.out.kept hb2 (by omega))
   have B2:=Lib.hid (B1.out.trans (hb2.mono (by omega)))
   clear l2 hb2 hk2 L1 K1 Q1 B1
   go_wp2_with fail
   refine (writeByte_any _ _ _ 46 46 rfl _ L2.out (by rw [List.length_append]; have:=hlen; have:=HDa.out; omega) (by omega)).mono ?_
   rintro e w3 ⟨rfl,l3,hb3,hk3⟩
   have hz3:=hb3.size
   have L3:=Lib.hid l3
   have K3:=Lib.hid (hk3 _ _ K2.out (by simp; omega) (by intro c fz e; injection e with _ e; exact absurd e (by decide)))
   have Q3:=Lib.hid (Q2.out.kept hb3 (by omega))
   have B3:=Lib.hid (B2.out.trans (hb3.mono (by omega)))
   clear l3 hb3 hk3 L2 K2 Q2 B2
   go_wp2
   go_step3
   refine ⟨rfl,⟨1,bc,_,_,_,_,_,_,_,_,_,_,_,_,_,_,_,_,_,_,_,B3.out,Q3.out,K3.out,hbc,.inr (.inl ⟨rfl,L3.out⟩),rfl⟩,?_⟩
   simp [TextM,intOf]
  ·have HL:=Lib.hid hl; clear hl
   have hlen:([] ++ Lib.decDigits v.a ++ [46]:List UInt8).length≤1000:=by simp only [List.length_append,List.length_singleton,List.length_nil]; have:=HDa.out; have:=HDb.out; omega
   have ht:=HTab.out.kept HB.out
   have HT:=Lib.hid ht; clear ht
   go_wp2_with fail
   refine (Num.text_any v.b Hb.out _ HT.out).mono ?_
   rintro e w1 ⟨rfl,hb1⟩
   have hz1:=hb1.size
   have L1:=Lib.hid (HL.out.kept hb1)
   have K1:=Lib.hid ((hb1.block bc (Array.getElem?_eq_some_iff.1 HC.out).1).trans HC.out)
   have Q1:=Lib.hid (H5.out.kept hb1 (by omega))
   have B1:=Lib.hid (HB.out.trans (hb1.mono (by omega)))
   clear hb1 HT HL HC H5 hx0 hx1 hx2
   go_wp2_with fail
   refine (writeString_any _ _ _ (Lib.decDigits v.b) _ L1.out (by have:=hlen; omega) (by have:=HDb.out; omega) (by omega)).mono ?_
   rintro e w2 ⟨rfl,l2,hb2,hk2⟩
   have hz2:=hb2.size
   have L2:=Lib.hid l2
   have K2:=Lib.hid (hk2 _ _ K1.out (by simp; omega) (by intro c fz e; injection e with _ e; exact absurd e (by decide)))
   have Q2:=Lib.hid (Q1.out.kept hb2 (by omega))
   have B2:=Lib.hid (B1.out.trans (hb2.mono (by omega)))
   clear l2 hb2 hk2 L1 K1 Q1 B1
   go_wp2_with fail
   refine (writeByte_any _ _ _ 46 46 rfl _ L2.out (by rw [List.length_append]; have:=hlen; have:=HDb.out; omega) (by omega)).mono ?_
   rintro e w3 ⟨rfl,l3,hb3,hk3⟩
   have hz3:=hb3.size
   have L3:=Lib.hid l3
   have K3:=Lib.hid (hk3 _ _ K2.out (by simp; omega) (by intro c fz e; injection e with _ e; exact absurd e (by decide)))
   have Q3:=Lib.hid (Q2.out.kept hb3 (by omega))
   have B3:=Lib.hid (B2.out.trans (hb3.mono (by omega)))
   clear l3 hb3 hk3 L2 K2 Q2 B2
   go_wp2
   go_step3
   refine ⟨rfl,⟨2,bc,_,_,_,_,_,_,_,_,_,_,_,_,_,_,_,_,_,_,_,B3.out,Q3.out,K3.out,hbc,.inr (.inr ⟨rfl,L3.out⟩),rfl⟩,?_⟩
   simp [TextM,intOf]
  ·have HL:=Lib.hid hl; clear hl
   have hlen:([] ++ Lib.decDigits v.a ++ [46] ++ Lib.decDigits v.b ++ [46]:List UInt8).length≤1000:=by simp only [List.length_append,List.length_singleton,List.length_nil]; have:=HDa.out; have:=HDb.out; omega
   have ht:=HTab.out.kept HB.out
   have HT:=Lib.hid ht; clear ht
   go_wp2_with fail
   refine (Num.text_any v.c Hc.out _ HT.out).mono ?_
   rintro e w1 ⟨rfl,hb1⟩
   have hz1:=hb1.size
   have L1:=Lib.hid (HL.out.kept hb1)
   have K1:=Lib.hid ((hb1.block bc (Array.getElem?_eq_some_iff.1 HC.out).1).trans HC.out)
   have Q1:=Lib.hid (H5.out.kept hb1 (by omega))
   have B1:=Lib.hid (HB.out.trans (hb1.mono (by omega)))
   clear hb1 HT HL HC H5 hx0 hx1 hx2
   go_wp2_with fail
   refine (writeString_any _ _ _ (Lib.decDigits v.c) _ L1.out (by have:=hlen; omega) (by have:=HDc.out; omega) (by omega)).mono ?_
   rintro e w2 ⟨rfl,l2,hb2,hk2⟩
   have hz2:=hb2.size
   have L2:=Lib.hid l2
   have K2:=Lib.hid (hk2 _ _ K1.out (by simp; omega) (by intro c fz e; injection e with _ e; exact absurd e (by decide)))
   have Q2:=Lib.hid (Q1.out.kept hb2 (by omega))
   have B2:=Lib.hid (B1.out.trans (hb2.mono (by omega)))
   clear l2 hb2 hk2 L1 K1 Q1 B1
   obtain ⟨_,_,g0,g1,g2,g3,g4⟩:=Q2.out
   have hlen2:([] ++ Lib.decDigits v.a ++ [46] ++ Lib.decDigits v.b ++ [46] ++ Lib.decDigits v.c).length≤1000:=by simp only [List.length_append,List.length_singleton,List.length_nil]; have:=HDa.out; have:=HDb.out; have:=HDc.out; omega
   go_wp2_with fail
   refine (writeRow_any _ _ _ A v.pre.length c v.pre 45 45 rfl w _ L2.out (by omega) (by omega) HR1.out B2.out (by omega) hc1 HS1.out).mono ?_
   rintro e w3 ⟨rfl,l3,hb3,hk3⟩
   have hz3:=hb3.size
   have L3:=Lib.hid l3
   have Q3:=Lib.hid (Q2.out.kept hb3 (by omega))
   have B3:=Lib.hid (B2.out.trans (hb3.mono (by omega)))
   clear l3 hb3 hk3 L2 K2 Q2 B2 g0 g1 g2 g3 g4
   obtain ⟨_,_,g0,g1,g2,g3,g4⟩:=Q3.out
   have hlen3:([] ++ Lib.decDigits v.a ++ [46] ++ Lib.decDigits v.b ++ [46] ++ Lib.decDigits v.c ++ rowText 45 v.pre).length≤20000:=by rw [List.length_append]; have:=HP1.out; omega
   go_wp2_with fail
   refine (writeRow_any _ _ _ B v.build.length d v.build 43 43 rfl w _ L3.out (by omega) (by omega) HR2.out B3.out (by omega) hc2 HS2.out).mono ?_
   rintro e w4 ⟨rfl,l4,hb4,hk4⟩
   have hz4:=hb4.size
   have L4:=Lib.hid l4
   have B4:=Lib.hid (B3.out.trans (hb4.mono (by omega)))
   clear l4 hb4 hk4 L3 Q3 B3 g0 g1 g2 g3 g4 hlen hlen2 hlen3
   have HTX:Hid ([] ++ Lib.decDigits v.a ++ [46] ++ Lib.decDigits v.b ++ [46] ++ Lib.decDigits v.c ++ rowText 45 v.pre ++ rowText 43 v.build=vtext v):=by unfold Hid vtext; rw [List.nil_append]
   generalize [] ++ Lib.decDigits v.a ++ [46] ++ Lib.decDigits v.b ++ [46] ++ Lib.decDigits v.c ++ rowText 45 v.pre ++ rowText 43 v.build=tx at L4 HTX
   go_wp2_with fail
   refine (Tryz.builderString _ _ _ _ L4.out (by omega)).mono ?_
   rintro e w5 ⟨rfl,_,hb5,_⟩
   have B5:=Lib.hid (B4.out.trans (hb5.mono (by omega)))
   clear hb5
   go_wp2
   simp only [Exit.jump]
   go_ret
   exact ⟨by rw [← HTX.out]; rfl,B5.out⟩
 ·intro HP
  have H5:=Lib.hid (At5.new w 47 v.a v.b v.c (.slice A v.pre.length c) (.slice B v.build.length d))
  have HN:=Bld.new (w.alloc (.cells #[v.a,v.b,v.c,.slice A v.pre.length c,.slice B v.build.length d] 47)) (w.heap.size+1) (by simp)
  rw [size_alloc] at HN
  have HBN:=Lib.hid HN; clear HN
  go_wp2_with fail
  refine (coreOf_any _ _ _ _ _ _).mono ?_
  rintro e w1 ⟨rfl,hb1⟩
  have hz1:w.heap.size+2≤w1.heap.size:=by have:=hb1.size; simpa using this
  have HBa:Hid (Below w.heap.size w ((w.alloc (.cells #[v.a,v.b,v.c,.slice A v.pre.length c,.slice B v.build.length d] 47)).alloc (.cells #[.pointer none,.slice none 0 0] 145))):=((Below.refl _ _).alloc (Nat.le_refl _) _).alloc (by simp) _
  have HBb:=Lib.hid (HBa.out.trans (hb1.mono (by simp; omega)))
  have H5b:=Lib.hid ((H5.out.kept ((Below.refl _ _).alloc (Nat.le_refl _) (.cells #[.pointer none,.slice none 0 0] 145)) (by simp)).kept hb1 (by simp; omega))
  have HLb:=Lib.hid (HBN.out.kept hb1)
  have HBc:=Lib.hid ((Below.refl w1.heap.size w1).alloc (Nat.le_refl _) (.cells #[v.a,v.b,v.c] 123))
  have HBd:=Lib.hid (HBb.out.trans (HBc.out.mono (by omega)))
  have H5d:=Lib.hid (H5b.out.kept HBc.out (by omega))
  have HLd:=Lib.hid (HLb.out.kept HBc.out)
  have HCd:Hid ((w1.alloc (.cells #[v.a,v.b,v.c] 123)).heap[w1.heap.size]?=some (.cells #[v.a,v.b,v.c] 123)):=by
   show (w1.heap.push _)[w1.heap.size]?=_
   simp
  clear hb1 H5 HBN HBa HBb H5b HLb HBc
  go_wp2
  go_step3
  rename_i hK
  exact hK _ _ (HP.out _ _ ⟨0,w1.heap.size,_,_,_,_,_,_,_,_,_,_,_,_,_,_,_,_,_,_,_,HBd.out,H5d.out,HCd.out,by omega,.inl ⟨rfl,HLd.out⟩,rfl⟩)
end Go.Proofs.YtneilnibghhgmaaGreatDoor.Semver
