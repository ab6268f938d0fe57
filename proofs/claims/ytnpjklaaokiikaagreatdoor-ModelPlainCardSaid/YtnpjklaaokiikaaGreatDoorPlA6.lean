/-
  What the theorem of the last text needs of these: SpMath, IdRows, RgTell, SvRefSmall, IdRefCmp. Conditions: as each theorem states.
-/
import Derived.Test.YtnpjklaaokiikaaGreatDoorPlA1
import Derived.Test.YtnpjklaaokiikaaGreatDoorPlA2
import Derived.Test.YtnpjklaaokiikaaGreatDoorPlA3
import Derived.Test.YtnpjklaaokiikaaGreatDoorPlA4
import Derived.Test.YtnpjklaaokiikaaGreatDoorPlA5
import Derived.StillTailTactics
import Derived.Deep.QuietTactic
import Derived.BigQuiet
import Derived.Deep.CutBlock
import Derived.Deep.DeepCutAuto
set_option maxRecDepth 100000
set_option maxHeartbeats 25600000
namespace Go.Proofs.YtnpjklaaokiikaaGreatDoor.Span
open Go.RowKit Num Ident Semver Prec

structure Cut where
 kind:Int
 v:Ver
deriving DecidableEq
structure Sp where
 lo:Cut
 hi:Cut
deriving DecidableEq
def low:Cut:=⟨0,noVer⟩
def high:Cut:=⟨3,noVer⟩
def ofVer (c:Cut):Bool:=decide (c.kind=1∨c.kind=2)
theorem ofVer_iff (c:Cut):ofVer c=true↔c.kind=1∨c.kind=2:=by simp [ofVer]
theorem ofVer_no (c:Cut):ofVer c=false↔¬ (c.kind=1∨c.kind=2):=by rw [← ofVer_iff]; cases ofVer c <;> simp
def right (c:Cut):Bool:=if c.kind=0∨c.kind=3 then sameV c.v noVer else if c.kind=1∨c.kind=2 then goodV c.v && decide (c.v.build.length=0) else false
theorem right_ends {c:Cut} (h:c.kind=0∨c.kind=3):right c=sameV c.v noVer:=by unfold right; rw [if_pos h]
theorem right_ver {c:Cut} (h:c.kind=1∨c.kind=2):right c=(goodV c.v && decide (c.v.build.length=0)):=by unfold right; rw [if_neg (by omega),if_pos h]
theorem right_none {c:Cut} (h1:¬ (c.kind=0∨c.kind=3)) (h2:¬ (c.kind=1∨c.kind=2)):right c=false:=by unfold right; rw [if_neg h1,if_neg h2]
def ordI (x y:Int):Int:=if x<y then -1 else if y<x then 1 else 0
theorem ordI_lt {x y:Int} (h:x<y):ordI x y=-1:=by unfold ordI; rw [if_pos h]
theorem ordI_gt {x y:Int} (h:y<x):ordI x y=1:=by unfold ordI; rw [if_neg (by omega),if_pos h]
theorem ordI_eq {x y:Int} (h:x=y):ordI x y=0:=by unfold ordI; rw [if_neg (by omega),if_neg (by omega)]
theorem ordI_cases (x y:Int):(x<y∧ordI x y=-1)∨(x=y∧ordI x y=0)∨(y<x∧ordI x y=1):=by
 rcases Int.lt_trichotomy x y with h | h | h
 ·exact .inl ⟨h,ordI_lt h⟩
 ·exact .inr (.inl ⟨h,ordI_eq h⟩)
 ·exact .inr (.inr ⟨h,ordI_gt h⟩)
theorem ordI_ordr:Ordr ordI:=by
 refine ⟨fun x y=>?_,fun x y z h1 h2=>?_⟩
 ·rcases ordI_cases x y with ⟨a,b⟩ | ⟨a,b⟩ | ⟨a,b⟩ <;> rcases ordI_cases y x with ⟨c,d⟩ | ⟨c,d⟩ | ⟨c,d⟩ <;> omega
 ·rcases ordI_cases x y with ⟨a,b⟩ | ⟨a,b⟩ | ⟨a,b⟩ <;> rcases ordI_cases y z with ⟨c,d⟩ | ⟨c,d⟩ | ⟨c,d⟩ <;> rcases ordI_cases x z with ⟨e,f⟩ | ⟨e,f⟩ | ⟨e,f⟩ <;> omega
def stand (a b:Cut):Int:=if ofVer a=true∧ofVer b=true∧cmpV a.v b.v≠0 then cmpV a.v b.v else ordI a.kind b.kind
def cmpC (a b:Cut):Int:=if right a=true∧right b=true then stand a b else ordI a.kind b.kind
theorem cmpC_right {a b:Cut} (h1:right a=true) (h2:right b=true):cmpC a b=stand a b:=by unfold cmpC; rw [if_pos ⟨h1,h2⟩]
def kc (c:Cut):Int:=if ofVer c=true then 1 else c.kind
def vk (c:Cut):Ver:=if ofVer c=true then c.v else noVer
theorem stand_lex (a b:Cut):stand a b=lex (fun x y=>ordI (kc x) (kc y)) (lex (fun x y=>cmpV (vk x) (vk y)) fun x y=>ordI x.kind y.kind) a b:=by
 unfold stand
 by_cases h1:ofVer a=true
 ·by_cases h2:ofVer b=true
  ·have e1:ordI (kc a) (kc b)=0:=ordI_eq (by unfold kc; rw [if_pos h1,if_pos h2])
   have e2:cmpV (vk a) (vk b)=cmpV a.v b.v:=by unfold vk; rw [if_pos h1,if_pos h2]
   refine Eq.trans ?_ (lex_yes (f:=fun x y=>ordI (kc x) (kc y)) e1).symm
   by_cases h3:cmpV a.v b.v=0
   ·rw [if_neg (fun h=>h.2.2 h3)]
    exact (lex_yes (f:=fun x y=>cmpV (vk x) (vk y)) (g:=fun x y:Cut=>ordI x.kind y.kind) (by show cmpV (vk a) (vk b)=0; rw [e2]; exact h3)).symm
   ·rw [if_pos ⟨h1,h2,h3⟩,← e2]
    exact (lex_no (f:=fun x y=>cmpV (vk x) (vk y)) (g:=fun x y:Cut=>ordI x.kind y.kind) (by show cmpV (vk a) (vk b)≠0; rw [e2]; exact h3)).symm
  ·rw [if_neg (fun h=>h2 h.2.1)]
   have ha:=(ofVer_iff a).1 h1
   have hb:=(ofVer_no b).1 (by simpa using h2)
   have e1:kc a=1:=by unfold kc; rw [if_pos h1]
   have e2:kc b=b.kind:=by unfold kc; rw [if_neg h2]
   have e3:ordI (kc a) (kc b)=ordI a.kind b.kind:=by
    rw [e1,e2]
    rcases ordI_cases 1 b.kind with ⟨c,d⟩ | ⟨c,d⟩ | ⟨c,d⟩ <;> rcases ordI_cases a.kind b.kind with ⟨e,f⟩ | ⟨e,f⟩ | ⟨e,f⟩ <;> omega
   refine Eq.trans e3.symm (lex_no (f:=fun x y=>ordI (kc x) (kc y)) ?_).symm
   show ordI (kc a) (kc b)≠0
   rw [e3]; rcases ordI_cases a.kind b.kind with ⟨e,f⟩ | ⟨e,f⟩ | ⟨e,f⟩ <;> omega
 ·rw [if_neg (fun h=>h1 h.1)]
  have ha:=(ofVer_no a).1 (by simpa using h1)
  have e1:kc a=a.kind:=by unfold kc; rw [if_neg h1]
  have e0:vk a=noVer:=by unfold vk; rw [if_neg h1]
  by_cases h2:ofVer b=true
  ·have hb:=(ofVer_iff b).1 h2
   have e2:kc b=1:=by unfold kc; rw [if_pos h2]
   have e3:ordI (kc a) (kc b)=ordI a.kind b.kind:=by
    rw [e1,e2]
    rcases ordI_cases a.kind 1 with ⟨c,d⟩ | ⟨c,d⟩ | ⟨c,d⟩ <;> rcases ordI_cases a.kind b.kind with ⟨e,f⟩ | ⟨e,f⟩ | ⟨e,f⟩ <;> omega
   refine Eq.trans e3.symm (lex_no (f:=fun x y=>ordI (kc x) (kc y)) ?_).symm
   show ordI (kc a) (kc b)≠0
   rw [e3]; rcases ordI_cases a.kind b.kind with ⟨e,f⟩ | ⟨e,f⟩ | ⟨e,f⟩ <;> omega
  ·have e2:kc b=b.kind:=by unfold kc; rw [if_neg h2]
   have e4:vk b=noVer:=by unfold vk; rw [if_neg h2]
   by_cases h3:ordI (kc a) (kc b)=0
   ·refine Eq.trans ?_ (lex_yes (f:=fun x y=>ordI (kc x) (kc y)) h3).symm
    exact (lex_yes (f:=fun x y=>cmpV (vk x) (vk y)) (g:=fun x y:Cut=>ordI x.kind y.kind) (by show cmpV (vk a) (vk b)=0; rw [e0,e4]; exact cmpV_ordr.self noVer)).symm
   ·refine Eq.trans ?_ (lex_no (f:=fun x y=>ordI (kc x) (kc y)) h3).symm
    show ordI a.kind b.kind=ordI (kc a) (kc b)
    rw [e1,e2]
theorem stand_ordr:Ordr stand:=by
 have h:stand=lex (fun x y=>ordI (kc x) (kc y)) (lex (fun x y=>cmpV (vk x) (vk y)) fun x y=>ordI x.kind y.kind):=by
  funext a b; exact stand_lex a b
 rw [h]
 exact (ordI_ordr.on kc).lex ((cmpV_ordr.on vk).lex (ordI_ordr.on Cut.kind))
theorem stand_flip (a b:Cut):stand b a=0 - stand a b:=stand_ordr.flip a b
theorem stand_self (a:Cut):stand a a=0:=stand_ordr.self a
theorem le_le {a b c:Cut} (h1:stand a b≤0) (h2:stand b c≤0):stand a c≤0:=stand_ordr.trans a b c h1 h2
theorem le_lt {a b c:Cut} (h1:stand a b≤0) (h2:stand b c<0):stand a c<0:=by
 have h3:=le_le h1 (show stand b c≤0 by omega)
 rcases Int.lt_or_eq_of_le h3 with h | h
 ·exact h
 ·have h4:=stand_flip a c
  have h5:=le_le (show stand c a≤0 by omega) h1
  have h6:=stand_flip b c
  omega
theorem lt_le {a b c:Cut} (h1:stand a b<0) (h2:stand b c≤0):stand a c<0:=by
 have h3:=le_le (show stand a b≤0 by omega) h2
 rcases Int.lt_or_eq_of_le h3 with h | h
 ·exact h
 ·have h4:=stand_flip a c
  have h5:=le_le h2 (show stand c a≤0 by omega)
  have h6:=stand_flip a b
  omega
theorem lt_lt {a b c:Cut} (h1:stand a b<0) (h2:stand b c<0):stand a c<0:=le_lt (by omega) h2
theorem not_lt {a b:Cut} (h:¬ stand a b<0):stand b a≤0:=by have:=stand_flip a b; omega
theorem not_le {a b:Cut} (h:¬ stand a b≤0):stand b a<0:=by have:=stand_flip a b; omega
theorem lt_not {a b:Cut} (h:stand a b<0):¬ stand b a≤0:=by have:=stand_flip a b; omega
theorem le_not {a b:Cut} (h:stand a b≤0):¬ stand b a<0:=by have:=stand_flip a b; omega
theorem like_flip {a b:Cut} (h:stand a b=0):stand b a=0:=by have:=stand_flip a b; omega

def inOne (s:Sp) (c:Cut):Prop:=stand s.lo c≤0∧stand c s.hi<0
def inS (l:List Sp) (c:Cut):Prop:=∃ s ∈ l,inOne s c
def cnt (s:Sp):Bool:=right s.lo && (right s.hi && decide (stand s.lo s.hi<0))
theorem cnt_iff (s:Sp):cnt s=true↔right s.lo=true∧right s.hi=true∧stand s.lo s.hi<0:=by simp [cnt]
def inR (l:List Sp) (c:Cut):Prop:=∃ s ∈ l,cnt s=true∧inOne s c
structure Norm (l:List Sp):Prop where
 cnt:∀ s ∈ l,cnt s=true
 gap:l.Pairwise fun s t=>stand s.hi t.lo<0
theorem Norm.nil:Norm []:=⟨(fun s h=>by cases h),List.Pairwise.nil⟩
theorem Norm.tail {s:Sp} {l:List Sp} (h:Norm (s :: l)):Norm l:=⟨fun t ht=>h.cnt t (List.mem_cons_of_mem _ ht),(List.pairwise_cons.1 h.gap).2⟩
theorem Norm.ahead {s:Sp} {l:List Sp} (h:Norm (s :: l)):∀ t ∈ l,stand s.hi t.lo<0:=(List.pairwise_cons.1 h.gap).1
theorem Norm.inR {l:List Sp} (h:Norm l) (c:Cut):inR l c↔inS l c:=⟨fun ⟨s,hs,_,hi⟩=>⟨s,hs,hi⟩,fun ⟨s,hs,hi⟩=>⟨s,hs,h.cnt s hs,hi⟩⟩
inductive Like:List Sp→List Sp→Prop
 | nil:Like [] []
 | cons {s t:Sp} {l m:List Sp}:stand s.lo t.lo=0→stand s.hi t.hi=0→Like l m→Like (s :: l) (t :: m)

theorem sameV_none {v:Ver} (h:sameV v noVer=true):v=noVer:=by
 unfold sameV at h
 rw [Bool.and_eq_true,decide_eq_true_eq,Bool.and_eq_true,sameB_iff,sameB_iff] at h
 obtain ⟨⟨h1,h2,h3⟩,h4,h5⟩:=h
 cases v; simp only [noVer] at *; subst h1; subst h2; subst h3; subst h4; subst h5; rfl
theorem good_len (pre:Bool):∀ (xs:List (List UInt8)) (i:Nat),i≤16→goodFrom pre xs i=true→i+xs.length≤16
 | [],i,hi,_=>by simpa using hi
 | x :: r,i,hi,h=>by
  rw [goodFrom] at h
  simp only [Bool.and_eq_true,beq_iff_eq] at h
  have h1:=(fault_pos h.1.1).2.2
  have:=good_len pre r (i+1) (by omega) h.2
  simp; omega
theorem right_few {c:Cut} (h:right c=true):c.v.pre.length≤16∧c.v.build=[]:=by
 by_cases h1:c.kind=0∨c.kind=3
 ·rw [right_ends h1] at h
  rw [sameV_none h]; exact ⟨by simp [noVer],rfl⟩
 ·by_cases h2:c.kind=1∨c.kind=2
  ·rw [right_ver h2,Bool.and_eq_true,decide_eq_true_eq] at h
   refine ⟨?_,List.eq_nil_of_length_eq_zero h.2⟩
   have hg:=h.1
   unfold goodV at hg
   rw [Bool.and_eq_true,Bool.and_eq_true] at hg
   have:=good_len true c.v.pre 0 (by omega) hg.2.1
   omega
  ·rw [right_none h1 h2] at h; cases h
theorem right_bare {c:Cut} (h:right c=true):bare c.v=c.v:=by
 have:=(right_few h).2
 unfold bare; rw [← this]
theorem low_right:right low=true:=by rw [right_ends (.inl rfl)]; exact sameV_self noVer
theorem high_right:right high=true:=by rw [right_ends (.inr rfl)]; exact sameV_self noVer
theorem low_high:stand low high<0:=by
 unfold stand; rw [if_neg (by rintro ⟨h,_⟩; exact absurd h (by decide))]; exact (show (-1:Int)<0 by omega)
theorem right_kind {c:Cut} (h:right c=true):c.kind=0∨c.kind=1∨c.kind=2∨c.kind=3:=by
 by_cases h1:c.kind=0∨c.kind=3
 ·omega
 ·by_cases h2:c.kind=1∨c.kind=2
  ·omega
  ·rw [right_none h1 h2] at h; cases h
theorem stand_kind {a b:Cut} (h:¬ (ofVer a=true∧ofVer b=true)):stand a b=ordI a.kind b.kind:=by
 unfold stand; rw [if_neg (fun k=>h ⟨k.1,k.2.1⟩)]
theorem low_le {c:Cut} (h:right c=true):stand low c≤0:=by
 rw [stand_kind (by rintro ⟨h,_⟩; exact absurd h (by decide))]
 have:=right_kind h
 have e:low.kind=0:=rfl
 rcases ordI_cases low.kind c.kind with ⟨a,b⟩ | ⟨a,b⟩ | ⟨a,b⟩ <;> omega
theorem le_high {c:Cut} (h:right c=true):stand c high≤0:=by
 rw [stand_kind (by rintro ⟨_,h⟩; exact absurd h (by decide))]
 have:=right_kind h
 have e:high.kind=3:=rfl
 rcases ordI_cases c.kind high.kind with ⟨a,b⟩ | ⟨a,b⟩ | ⟨a,b⟩ <;> omega

def aheadOf (v:Ver):Cut:=⟨1,bare v⟩
def behindOf (v:Ver):Cut:=⟨2,bare v⟩
theorem ahead_behind (v:Ver):stand (aheadOf v) (behindOf v)<0:=by
 have h:cmpV (bare v) (bare v)=0:=cmpV_ordr.self _
 unfold stand
 rw [if_neg (fun k=>k.2.2 h)]; exact (show (-1:Int)<0 by omega)
theorem behind_le (c:Cut) (v:Ver):stand (aheadOf v) c<0↔stand (behindOf v) c≤0:=by
 constructor
 ·intro hc
  by_cases hv:ofVer c=true
  ·have hk:=(ofVer_iff c).1 hv
   by_cases h0:cmpV (bare v) c.v=0
   ·have e1:stand (aheadOf v) c=ordI 1 c.kind:=by unfold stand; rw [if_neg (fun k=>k.2.2 h0)]; rfl
    have e2:stand (behindOf v) c=ordI 2 c.kind:=by unfold stand; rw [if_neg (fun k=>k.2.2 h0)]; rfl
    rw [e1] at hc
    rw [e2]
    rcases ordI_cases 1 c.kind with ⟨a,b⟩ | ⟨a,b⟩ | ⟨a,b⟩ <;> rcases ordI_cases 2 c.kind with ⟨e,f⟩ | ⟨e,f⟩ | ⟨e,f⟩ <;> omega
   ·have e1:stand (aheadOf v) c=cmpV (bare v) c.v:=by unfold stand; rw [if_pos ⟨rfl,hv,h0⟩]; rfl
    have e2:stand (behindOf v) c=cmpV (bare v) c.v:=by unfold stand; rw [if_pos ⟨rfl,hv,h0⟩]; rfl
    omega
  ·have hk:=(ofVer_no c).1 (by simpa using hv)
   rw [stand_kind (fun k=>hv k.2)] at hc ⊢
   have e1:(aheadOf v).kind=1:=rfl
   have e2:(behindOf v).kind=2:=rfl
   rcases ordI_cases (aheadOf v).kind c.kind with ⟨a,b⟩ | ⟨a,b⟩ | ⟨a,b⟩ <;> rcases ordI_cases (behindOf v).kind c.kind with ⟨e,f⟩ | ⟨e,f⟩ | ⟨e,f⟩ <;> omega
 ·intro hc
  exact lt_le (ahead_behind v) hc

end Go.Proofs.YtnpjklaaokiikaaGreatDoor.Span
namespace Go.Proofs.YtnpjklaaokiikaaGreatDoor.Ident
open Go.RowKit Num

theorem drop_texts (xs:List (List UInt8)) (k:Nat) (h:k<xs.length):xs.drop k=xs.getD k [] :: xs.drop (k+1):=by
 rw [List.drop_eq_getElem_cons h]; simp [List.getD,List.getElem?_eq_getElem h]
theorem getD_mem (xs:List (List UInt8)) (k:Nat) (h:k<xs.length):xs.getD k [] ∈ xs:=by
 simp [List.getD,List.getElem?_eq_getElem h]
theorem ordN_zero {a b:Nat} (h:a≤b):ordN 0 (b - a)=ordN a b:=by
 rcases Nat.lt_or_ge a b with h1 | h1
 ·rw [ordN_lt h1,ordN_lt (by omega)]
 ·rw [ordN_eq (by omega),ordN_eq (by omega)]
theorem ordN_zero' {a b:Nat} (h:b≤a):ordN (a - b) 0=ordN a b:=by
 rcases Nat.lt_or_ge b a with h1 | h1
 ·rw [ordN_gt h1,ordN_gt (by omega)]
 ·rw [ordN_eq (by omega),ordN_eq (by omega)]
theorem rows_end {xs ys:List (List UInt8)} {k:Nat} (h1:k≤xs.length) (h2:k≤ys.length) (h:k=xs.length∨k=ys.length):cmpRows (xs.drop k) (ys.drop k)=ordN xs.length ys.length:=by
 rcases h with h | h
 ·subst h
  rw [List.drop_eq_nil_of_le (Nat.le_refl _),cmpRows_nil,List.length_drop]; exact ordN_zero h2
 ·subst h
  rw [List.drop_eq_nil_of_le (Nat.le_refl ys.length),cmpRows_nil',List.length_drop]; exact ordN_zero' h1

def RowsJ (w:World) (A:Option Addr) (a ca:Nat) (B:Option Addr) (b cb:Nat) (g:Value) (xs ys:List (List UInt8)) (a':Act) (w':World):Prop :=
 ∃ (k:Nat) (u8 u9 u10 u11 u12 u13 u14 u15 u16 u17 u18 u19 u20 u21 u22 u23 u24 u25 u26 u27 u28 u29 u30 u31 u32 u33 u34 u35 u36 u37 u38:Value),BelowD w.heap.size w w'∧k≤a∧k≤b∧cmpRows (xs.drop k) (ys.drop k)=cmpRows xs ys ∧
  a'={ tmps:=#[.slice A a ca,.slice B b cb,g,undef,undef,undef,.int .i64 0,.int .i64 k,u8,u9,u10,u11,u12,u13,u14,u15,u16,u17,u18,u19,u20,u21,u22,u23,u24,u25,u26,u27,u28,u29,u30,u31,u32,u33,u34,u35,u36,u37,u38],defers:=[] }
def RowsM (n:Nat) (a':Act) (_:World):Nat:=n - (intOf (a'.tmps.getD 7 undef)).toNat

theorem rowsG_anyD (A:Option Addr) (a ca:Nat) (xs:List (List UInt8)) (B:Option Addr) (b cb:Nat) (ys:List (List UInt8)) (w:World) (hA:SRow w A a xs) (hB:SRow w B b ys)
  (ha:a≤maxLen) (hb:b≤maxLen) (hx:∀ x ∈ xs,x.length≤maxLen) (hy:∀ y ∈ ys,y.length≤maxLen) :
  Calls Tryz.prog 198 #[.slice A a ca,.slice B b cb,.func (.func 199) #[] #[]] w fun e w'=>e=.returned (.int .i64 (cmpRows xs ys))∧BelowD w.heap.size w w':=by
 unfold maxLen at ha hb
 have HA:=Lib.hid hA
 have HB:=Lib.hid hB
 have HX:=Lib.hid hx
 have HY:=Lib.hid hy
 have HLA:=Lib.hid hA.1
 have HLB:=Lib.hid hB.1
 clear hA hB hx hy
 go_enter Tryz.func198,Tryz.ntmps198
 go_wp2
 refine wp_scope_back 0 (RowsJ w A a ca B b cb (.func (.func 199) #[] #[]) xs ys) (RowsM a) rfl ?_ ?_
 ·rintro a' w1 ⟨k,u8,u9,u10,u11,u12,u13,u14,u15,u16,u17,u18,u19,u20,u21,u22,u23,u24,u25,u26,u27,u28,u29,u30,u31,u32,u33,u34,u35,u36,u37,u38,hb1,hk1,hk2,hgo,rfl⟩
  have HB1:=Lib.hid hb1
  have HG:=Lib.hid hgo
  clear hb1 hgo
  have hz1:=HB1.out.size
  have HE:Hid (k=a∨k=b→cmpRows xs ys=ordN a b):=fun h=>by
   rw [← HG.out,rows_end (by rw [HLA.out]; exact hk1) (by rw [HLB.out]; exact hk2) (by rw [HLA.out,HLB.out]; exact h),HLA.out,HLB.out]
  by_cases h1:k=a
  ·have HE2:=Lib.hid (HE.out (.inl h1))
   have hb1:((k:Int) == (a:Int))=true:=by simp [h1]
   clear h1 HE
   go_wp2_with fail
   refine (cmp_any _ _ _).mono ?_
   rintro e w' ⟨rfl,rfl⟩
   go_wp2
   simp only [Exit.jump]
   go_ret
   exact ⟨by rw [HE2.out]; rfl,HB1.out⟩
  by_cases h2:k=b
  ·have HE2:=Lib.hid (HE.out (.inr h2))
   have hb1:((k:Int) == (a:Int))=false:=by simp; omega
   have hb2:((k:Int) == (b:Int))=true:=by simp [h2]
   clear h1 h2 HE
   go_wp2_with fail
   refine (cmp_any _ _ _).mono ?_
   rintro e w' ⟨rfl,rfl⟩
   go_wp2
   simp only [Exit.jump]
   go_ret
   exact ⟨by rw [HE2.out]; rfl,HB1.out⟩
  have hb1:((k:Int) == (a:Int))=false:=by simp; omega
  have hb2:((k:Int) == (b:Int))=false:=by simp; omega
  have hka:k<a:=by omega
  have hkb:k<b:=by omega
  clear h1 h2 HE
  obtain ⟨g1,o1,rfl,hg1,hc1⟩:=(HA.out.kept HB1.out.toBelow).2 (by omega)
  obtain ⟨g2,o2,rfl,hg2,hc2⟩:=(HB.out.kept HB1.out.toBelow).2 (by omega)
  have hx1:=hc1 k hka
  have hx2:=hc2 k hkb
  clear hc1 hc2
  have HZ1:=Lib.hid (HX.out _ (getD_mem xs k (by rw [HLA.out]; exact hka)))
  have HZ2:=Lib.hid (HY.out _ (getD_mem ys k (by rw [HLB.out]; exact hkb)))
  have HD:Hid (cmpRows xs ys=if cmpId (xs.getD k []) (ys.getD k [])=0 then cmpRows (xs.drop (k+1)) (ys.drop (k+1)) else cmpId (xs.getD k []) (ys.getD k [])):=by
   unfold Hid
   rw [← HG.out,drop_texts xs k (by rw [HLA.out]; exact hka),drop_texts ys k (by rw [HLB.out]; exact hkb),cmpRows]
  generalize xs.getD k []=s at hx1 HZ1 HD
  generalize ys.getD k []=t at hx2 HZ2 HD
  go_wp2
  go_still_tail 9,(by kernel_rfl)
  change wpList _ _ _ _ _ w1.drew
  have HW:=Lib.hid HB1.out.drew
  generalize w1.drew=w2 at HW
  have hz2:=HW.out.size
  obtain ⟨c,hc⟩:∃ c,cmpId s t=c:=⟨_,rfl⟩
  rw [hc] at HD
  have HC:=Lib.hid hc; clear hc
  go_wp2_with fail
  refine (idcmp_anyD (mk s) (mk t) _ (by rw [mk_size]; exact HZ1.out) (by rw [mk_size]; exact HZ2.out)).mono ?_
  rw [mk_list,mk_list,HC.out]
  rintro e w3 ⟨rfl,hb3⟩
  have HB3:=Lib.hid (HW.out.trans (hb3.mono hz2))
  clear hb3
  by_cases hc0:c=0
  ·have HD2:Hid (cmpRows (xs.drop (k+1)) (ys.drop (k+1))=cmpRows xs ys):=by have:=HD.out; rw [if_pos hc0] at this; exact this.symm
   subst hc0
   clear HD
   go_wp2
   go_step3
   rw [show ((k:Int)+1)=((k+1:Nat):Int) from rfl]
   refine ⟨rfl,⟨k+1,_,_,_,_,_,_,_,_,_,_,_,_,_,_,_,_,_,_,_,_,_,_,_,_,_,_,_,_,_,_,_,HB3.out,by omega,by omega,HD2.out,rfl⟩,?_⟩
   simp [RowsM,intOf]; omega
  ·have HD2:Hid (cmpRows xs ys=c):=by have:=HD.out; rw [if_neg hc0] at this; exact this
   have hn:(c == 0)=false:=by simp [hc0]
   have hn2:(c != 0)=true:=by simp [hc0]
   clear HD hc0
   go_wp2
   simp only [Exit.jump]
   go_ret
   exact ⟨by rw [HD2.out]; rfl,HB3.out⟩
 ·intro HP
  go_wp2
  go_step3
  rename_i hK
  exact hK _ _ (HP.out _ _ ⟨0,_,_,_,_,_,_,_,_,_,_,_,_,_,_,_,_,_,_,_,_,_,_,_,_,_,_,_,_,_,_,_,BelowD.refl _ _,by omega,by omega,rfl,rfl⟩)
theorem rows_anyD (A:Option Addr) (a ca:Nat) (xs:List (List UInt8)) (B:Option Addr) (b cb:Nat) (ys:List (List UInt8)) (w:World) (hA:SRow w A a xs) (hB:SRow w B b ys)
  (ha:a≤maxLen) (hb:b≤maxLen) (hx:∀ x ∈ xs,x.length≤maxLen) (hy:∀ y ∈ ys,y.length≤maxLen) :
  Calls Tryz.prog 146 #[.slice A a ca,.slice B b cb] w fun e w'=>e=.returned (.int .i64 (cmpRows xs ys))∧BelowD w.heap.size w w':=by
 have HA:=Lib.hid hA
 have HB:=Lib.hid hB
 have HX:=Lib.hid hx
 have HY:=Lib.hid hy
 have HM:=Lib.hid ha
 have HN:=Lib.hid hb
 clear hA hB hx hy ha hb
 go_enter Tryz.func146,Tryz.ntmps146
 go_wp2_with fail
 refine (rowsG_anyD A a ca xs B b cb ys _ HA.out HB.out HM.out HN.out HX.out HY.out).mono ?_
 rintro e w1 ⟨rfl,hb1⟩
 go_wp2
 go_ret
 exact ⟨rfl,hb1⟩
end Go.Proofs.YtnpjklaaokiikaaGreatDoor.Ident
namespace Go.Proofs.YtnpjklaaokiikaaGreatDoor.Range
open Go.RowKit Num Ident Semver

theorem ofVersion_any (k:Int) (w:World):Calls Tryz.prog 211 #[.int .i64 k] w fun e w'=>e=.returned (.bool (ofVersion k))∧w'=w:=by
 unfold ofVersion
 go_enter Tryz.func211,Tryz.ntmps211
 by_cases h1:1≤k
 ·by_cases h2:k≤8
  ·go_wp2; go_ret
   exact ⟨by simp [h1,h2],rfl⟩
  ·go_wp2; go_ret
   exact ⟨by simp [h2],rfl⟩
 ·go_wp2; go_ret
  exact ⟨by simp; omega,rfl⟩
theorem bracketed_any (o k:Int) (w:World):Calls Tryz.prog 173 #[.int .i64 o,.int .i64 k] w fun e w'=>e=.returned (.bool (bracketed o k))∧w'=w:=by
 unfold bracketed
 go_enter Tryz.func173,Tryz.ntmps173
 by_cases h1:k=10
 ·go_wp2; go_ret
  exact ⟨by simp [h1],rfl⟩
 ·by_cases h2:k=9
  ·by_cases h3:o=10
   ·go_wp2; go_ret
    exact ⟨by simp [h2,h3],rfl⟩
   ·go_wp2; go_ret
    exact ⟨by simp [h2,h3],rfl⟩
  ·go_wp2; go_ret
   exact ⟨by simp [h1,h2],rfl⟩
theorem opens_any (o k:Int) (w:World):Calls Tryz.prog 219 #[.int .i64 o,.int .i64 k] w fun e w'=>e=.returned (.int .i64 (opens o k))∧w'=w:=by
 have HO:Hid (opens o k=(if o=11 then 1 else 0)+(if bracketed o k=true then 1 else 0)):=rfl
 go_enter Tryz.func219,Tryz.ntmps219
 by_cases h1:o=11
 ·subst h1
  go_wp2_with fail
  refine (bracketed_any 11 k _).mono ?_
  rintro e w' ⟨rfl,rfl⟩
  cases hb:bracketed 11 k with
  | true=>go_wp2; go_ret; exact ⟨by rw [HO.out,hb]; rfl,rfl⟩
  | false=>go_wp2; go_ret; exact ⟨by rw [HO.out,hb]; rfl,rfl⟩
 ·go_wp2_with fail
  refine (bracketed_any o k _).mono ?_
  rintro e w' ⟨rfl,rfl⟩
  cases hb:bracketed o k with
  | true=>go_wp2; go_ret; exact ⟨by rw [HO.out,hb,if_neg h1]; rfl,rfl⟩
  | false=>go_wp2; go_ret; exact ⟨by rw [HO.out,hb,if_neg h1]; rfl,rfl⟩
end Go.Proofs.YtnpjklaaokiikaaGreatDoor.Range
namespace Go.Proofs.YtnpjklaaokiikaaGreatDoor.Semver
open Go.RowKit Num Ident

theorem refSame_any (u v:Ver) (A1 A2 B1 B2:Option Addr) (c1 c2 d1 d2:Nat) (w:World) (r1:SRow w A1 u.pre.length u.pre) (r2:SRow w A2 u.build.length u.build) (q1:SRow w B1 v.pre.length v.pre) (q2:SRow w B2 v.build.length v.build)
  (hn1:u.pre.length≤maxLen) (hn2:u.build.length≤maxLen) (hn3:v.pre.length≤maxLen) (hn4:v.build.length≤maxLen) :
  Calls Tryz.prog 42 #[.agg #[u.a,u.b,u.c,.slice A1 u.pre.length c1,.slice A2 u.build.length c2],.agg #[v.a,v.b,v.c,.slice B1 v.pre.length d1,.slice B2 v.build.length d2]] w fun e w'=>e=.returned (.bool (sameV u v))∧Below w.heap.size w w':=by
 have HBa:Hid (Below w.heap.size w ((w.alloc (.cells #[u.a,u.b,u.c,.slice A1 u.pre.length c1,.slice A2 u.build.length c2] 34)).alloc (.cells #[v.a,v.b,v.c,.slice B1 v.pre.length d1,.slice B2 v.build.length d2] 34))):=((Below.refl _ _).alloc (Nat.le_refl _) _).alloc (by simp) _
 have R1:=Lib.hid (r1.kept HBa.out)
 have R2:=Lib.hid (r2.kept HBa.out)
 have Q1:=Lib.hid (q1.kept HBa.out)
 have Q2:=Lib.hid (q2.kept HBa.out)
 have N1:=Lib.hid hn1
 have N2:=Lib.hid hn2
 have N3:=Lib.hid hn3
 have N4:=Lib.hid hn4
 have K1:Hid (At5 ((w.alloc (.cells #[u.a,u.b,u.c,.slice A1 u.pre.length c1,.slice A2 u.build.length c2] 34)).alloc (.cells #[v.a,v.b,v.c,.slice B1 v.pre.length d1,.slice B2 v.build.length d2] 34)) w.heap.size u.a u.b u.c (.slice A1 u.pre.length c1) (.slice A2 u.build.length c2)):=(At5.new w 34 _ _ _ _ _).kept ((Below.refl _ _).alloc (Nat.le_refl _) _) (by simp)
 have K2:Hid (At5 ((w.alloc (.cells #[u.a,u.b,u.c,.slice A1 u.pre.length c1,.slice A2 u.build.length c2] 34)).alloc (.cells #[v.a,v.b,v.c,.slice B1 v.pre.length d1,.slice B2 v.build.length d2] 34)) (w.heap.size+1) v.a v.b v.c (.slice B1 v.pre.length d1) (.slice B2 v.build.length d2)):=by
  have:=At5.new (w.alloc (.cells #[u.a,u.b,u.c,.slice A1 u.pre.length c1,.slice A2 u.build.length c2] 34)) 34 v.a v.b v.c (.slice B1 v.pre.length d1) (.slice B2 v.build.length d2)
  rw [size_alloc] at this; exact this
 clear r1 r2 q1 q2 hn1 hn2 hn3 hn4
 by_cases h1:u.a=v.a
 ·have e1:((u.a:Int) == (v.a:Int))=true:=by simp [h1]
  by_cases h2:u.b=v.b
  ·have e2:((u.b:Int) == (v.b:Int))=true:=by simp [h2]
   by_cases h3:u.c=v.c
   ·have e3:((u.c:Int) == (v.c:Int))=true:=by simp [h3]
    have HF:Hid (sameV u v=(sameB u.pre v.pre && sameB u.build v.build)):=by unfold Hid sameV; rw [decide_eq_true ⟨h1,h2,h3⟩]; rfl
    clear h1 h2 h3
    go_enter Tryz.func42,Tryz.ntmps42
    go_upto_region 1 with (fail)
    generalize ((w.alloc (.cells #[u.a,u.b,u.c,.slice A1 u.pre.length c1,.slice A2 u.build.length c2] 34)).alloc (.cells #[v.a,v.b,v.c,.slice B1 v.pre.length d1,.slice B2 v.build.length d2] 34))=W at HBa R1 R2 Q1 Q2 K1 K2 ⊢
    have hz:=K2.out.1
    have hzw:=HBa.out.size
    obtain ⟨_,_,x0,x1,x2,x3,x4⟩:=K1.out
    obtain ⟨_,_,y0,y1,y2,y3,y4⟩:=K2.out
    go_wp2_with fail
    refine (same_any _ _ _ u.pre _ _ _ v.pre _ R1.out Q1.out N1.out N3.out).mono ?_
    rintro e w1 ⟨rfl,hb1⟩
    have L1:=Lib.hid (K1.out.kept hb1 (by omega))
    have L2:=Lib.hid (K2.out.kept hb1 (by omega))
    have R2':=Lib.hid (R2.out.kept hb1)
    have Q2':=Lib.hid (Q2.out.kept hb1)
    have HB1:=Lib.hid (HBa.out.trans (hb1.mono hzw))
    have hz1:=HB1.out.size
    clear hb1 x0 x1 x2 x3 x4 y0 y1 y2 y3 y4
    obtain ⟨_,_,x0,x1,x2,x3,x4⟩:=L1.out
    obtain ⟨_,_,y0,y1,y2,y3,y4⟩:=L2.out
    generalize sameB u.pre v.pre=g1 at HF ⊢
    cases g1
    ·go_wp2
     go_ret
     exact ⟨by rw [HF.out]; rfl,HB1.out⟩
    go_wp2_with fail
    refine (same_any _ _ _ u.build _ _ _ v.build _ R2'.out Q2'.out N2.out N4.out).mono ?_
    rintro e w2 ⟨rfl,hb2⟩
    have HB2:=Lib.hid (HB1.out.trans (hb2.mono hz1))
    clear hb2 x0 x1 x2 x3 x4 y0 y1 y2 y3 y4
    go_wp2
    go_ret
    exact ⟨by rw [HF.out]; simp,HB2.out⟩
   ·have e3:((u.c:Int) == (v.c:Int))=false:=by simp; omega
    have HF:=Lib.hid (sameV_no (u:=u) (v:=v) fun h=>h3 h.2.2)
    clear h1 h2 h3
    go_enter Tryz.func42,Tryz.ntmps42
    go_wp2
    go_ret
    exact ⟨by rw [HF.out]; rfl,HBa.out⟩
  ·have e2:((u.b:Int) == (v.b:Int))=false:=by simp; omega
   have HF:=Lib.hid (sameV_no (u:=u) (v:=v) fun h=>h2 h.2.1)
   clear h1 h2
   go_enter Tryz.func42,Tryz.ntmps42
   go_wp2
   go_ret
   exact ⟨by rw [HF.out]; rfl,HBa.out⟩
 ·have e1:((u.a:Int) == (v.a:Int))=false:=by simp; omega
  have HF:=Lib.hid (sameV_no (u:=u) (v:=v) fun h=>h1 h.1)
  clear h1
  go_enter Tryz.func42,Tryz.ntmps42
  go_wp2
  go_ret
  exact ⟨by rw [HF.out]; rfl,HBa.out⟩
end Go.Proofs.YtnpjklaaokiikaaGreatDoor.Semver
namespace Go.Proofs.YtnpjklaaokiikaaGreatDoor.Ident
open Go.RowKit Num

theorem compare_less:∀ (a b:List UInt8),a≠b→Lib.compareBytes a b=if Op.bytesLess a b=true then -1 else 1:=by
 intro a
 induction a with
 | nil =>
  intro b h
  cases b with
  | nil=>exact absurd rfl h
  | cons y b=>simp [Lib.compareBytes,Op.bytesLess]
 | cons x a ih =>
  intro b h
  cases b with
  | nil=>simp [Lib.compareBytes,Op.bytesLess]
  | cons y b =>
   unfold Lib.compareBytes Op.bytesLess
   rcases Nat.lt_trichotomy x.toNat y.toNat with g | g | g
   ·have g1:x<y:=UInt8.lt_iff_toNat_lt.2 g
    simp [g1]
   ·have e:x=y:=UInt8.toNat_inj.1 g
    subst e
    have:=ih b (fun e=>h (by rw [e]))
    simp [UInt8.lt_irrefl,this]
   ·have g1:y<x:=UInt8.lt_iff_toNat_lt.2 g
    have g2:¬ x<y:=fun k=>by have:=UInt8.lt_iff_toNat_lt.1 k; omega
    have g3:¬ x=y:=fun k=>by subst k; exact g2 g1
    simp [g1,g2,g3]
theorem numeric_all {a:List UInt8} (h:numeric a=true):AllDig a:=all_of_run ((numeric_iff a).1 h).2
theorem cmpId_both {a b:List UInt8} (ha:numeric a=true) (hb:numeric b=true):cmpId a b=if ordN (val a) (val b)=0 then ordN a.length b.length else ordN (val a) (val b):=by
 unfold cmpId; rw [if_pos ha,if_pos hb]
theorem cmpId_first {a b:List UInt8} (ha:numeric a=true) (hb:numeric b=false):cmpId a b=-1:=by
 unfold cmpId; rw [if_pos ha,if_neg (by rw [hb]; decide)]
theorem cmpId_second {a b:List UInt8} (ha:numeric a=false) (hb:numeric b=true):cmpId a b=1:=by
 unfold cmpId; rw [if_neg (by rw [ha]; decide),if_pos hb]
theorem cmpId_neither {a b:List UInt8} (ha:numeric a=false) (hb:numeric b=false):cmpId a b=Lib.compareBytes a b:=by
 unfold cmpId; rw [if_neg (by rw [ha]; decide),if_neg (by rw [hb]; decide)]

theorem refCmp_all (s t:ByteArray) (w:World) (hs:s.size≤maxLen) (ht:t.size≤maxLen) :
  Calls Tryz.prog 148 #[.string s,.string t] w fun e w'=>e=.returned (.int .i64 (cmpId s.data.toList t.data.toList))∧w=w':=by
 unfold maxLen at hs ht
 by_cases hst:s=t
 ·have HF:Hid (cmpId s.data.toList t.data.toList=0):=by rw [hst]; exact cmpId_self _
  subst hst
  have hq:(s.toList == s.toList)=true:=by simp
  go_enter Tryz.func148,Tryz.ntmps148
  go_wp2
  go_ret
  exact ⟨by rw [HF.out]; rfl,rfl⟩
 have HNE:Hid (s.data.toList≠t.data.toList):=fun h=>hst (by have:=congrArg mk h; exact this)
 have hq:(s.toList == t.toList)=false:=by
  rw [Lib.toList_data,Lib.toList_data,beq_eq_false_iff_ne]; exact HNE.out
 clear hst
 cases ha:numeric s.data.toList
 ·cases hb:numeric t.data.toList
  ·have HF:Hid (cmpId s.data.toList t.data.toList=if Op.bytesLess s.toList t.toList=true then -1 else 1):=by
    unfold Hid
    rw [cmpId_neither ha hb,compare_less _ _ HNE.out,Lib.toList_data,Lib.toList_data]
   have HA:=Lib.hid ha; clear ha
   have HC:=Lib.hid hb; clear hb
   cases hl:Op.bytesLess s.toList t.toList
   ·rw [hl,if_neg (by decide)] at HF
    go_enter Tryz.func148,Tryz.ntmps148
    go_wp2_with fail
    refine (ref_numeric_all s _ (by unfold maxLen; omega)).mono ?_
    rintro e w' ⟨rfl,rfl⟩
    rw [HA.out]
    go_wp2_with fail
    refine (ref_numeric_all t _ (by unfold maxLen; omega)).mono ?_
    rintro e w' ⟨rfl,rfl⟩
    rw [HC.out]
    go_wp2
    go_ret
    exact ⟨by rw [HF.out]; rfl,rfl⟩
   ·rw [hl,if_pos rfl] at HF
    go_enter Tryz.func148,Tryz.ntmps148
    go_wp2_with fail
    refine (ref_numeric_all s _ (by unfold maxLen; omega)).mono ?_
    rintro e w' ⟨rfl,rfl⟩
    rw [HA.out]
    go_wp2_with fail
    refine (ref_numeric_all t _ (by unfold maxLen; omega)).mono ?_
    rintro e w' ⟨rfl,rfl⟩
    rw [HC.out]
    go_wp2
    go_ret
    exact ⟨by rw [HF.out]; rfl,rfl⟩
  ·have HF:=Lib.hid (cmpId_second ha hb)
   have HA:=Lib.hid ha; clear ha
   have HC:=Lib.hid hb; clear hb
   go_enter Tryz.func148,Tryz.ntmps148
   go_wp2_with fail
   refine (ref_numeric_all s _ (by unfold maxLen; omega)).mono ?_
   rintro e w' ⟨rfl,rfl⟩
   rw [HA.out]
   go_wp2_with fail
   refine (ref_numeric_all t _ (by unfold maxLen; omega)).mono ?_
   rintro e w' ⟨rfl,rfl⟩
   rw [HC.out]
   go_wp2
   go_ret
   exact ⟨by rw [HF.out]; rfl,rfl⟩
 ·cases hb:numeric t.data.toList
  ·have HF:=Lib.hid (cmpId_first ha hb)
   have HA:=Lib.hid ha; clear ha
   have HC:=Lib.hid hb; clear hb
   go_enter Tryz.func148,Tryz.ntmps148
   go_wp2_with fail
   refine (ref_numeric_all s _ (by unfold maxLen; omega)).mono ?_
   rintro e w' ⟨rfl,rfl⟩
   rw [HA.out]
   go_wp2_with fail
   refine (ref_numeric_all t _ (by unfold maxLen; omega)).mono ?_
   rintro e w' ⟨rfl,rfl⟩
   rw [HC.out]
   go_wp2
   go_ret
   exact ⟨by rw [HF.out]; rfl,rfl⟩
  ·have HF:=Lib.hid (cmpId_both ha hb)
   have AA:=Lib.hid (numeric_all ha)
   have AB:=Lib.hid (numeric_all hb)
   have HA:=Lib.hid ha; clear ha
   have HC:=Lib.hid hb; clear hb
   go_enter Tryz.func148,Tryz.ntmps148
   go_wp2_with fail
   refine (ref_numeric_all s _ (by unfold maxLen; omega)).mono ?_
   rintro e w' ⟨rfl,rfl⟩
   rw [HA.out]
   go_wp2_with fail
   refine (ref_numeric_all t _ (by unfold maxLen; omega)).mono ?_
   rintro e w' ⟨rfl,rfl⟩
   rw [HC.out]
   have HVI:Hid (val s.data.toList=val t.data.toList→s.size≠t.size):=fun h1 h2=>HNE.out (val_inj _ _ AA.out AB.out (by rw [← Lib.size_eq,← Lib.size_eq]; exact h2) h1)
   have HL1:=Lib.hid (Lib.size_eq s)
   have HL2:=Lib.hid (Lib.size_eq t)
   have ZA:Hid (Zeros s.data.toList s):=⟨0,rfl⟩
   have ZB:Hid (Zeros t.data.toList t):=⟨0,rfl⟩
   obtain ⟨l,hl⟩:∃ l,s.data.toList=l:=⟨_,rfl⟩
   obtain ⟨r,hr⟩:∃ r,t.data.toList=r:=⟨_,rfl⟩
   have HG:Hid (cmpId s.data.toList t.data.toList=if ordN (val l) (val r)=0 then ordN s.size t.size else ordN (val l) (val r)):=by have:=HF.out; rw [← HL1.out,← HL2.out,hl,hr] at this; rw [hl,hr]; exact this
   rw [hl] at AA ZA HVI
   rw [hr] at AB ZB HVI
   clear HF HA HC hl hr HL1 HL2 HNE
   go_wp2
   go_loop [8] (fun v=>∃ s':ByteArray,v=.string s'∧Hid (Zeros l s')∧s'.size≤9223372036854775807) (fun v=>t.size - strSize v)
   case atStart=>exact ⟨s,rfl,ZA,hs⟩
   case round =>
    obtain ⟨s',rfl,ZS,hs'⟩:=hrel
    by_cases hlt:s'.size<t.size
    ·go_wp2
     go_round
     case rel=>exact ⟨_,rfl,zero_ahead ZS.out,by rw [zero_size]; omega⟩
     case measure=>simp only [strSize]; rw [zero_size]; omega
    ·go_wp2
     go_loop [9] (fun v=>∃ t':ByteArray,v=.string t'∧Hid (Zeros r t')∧t'.size≤s'.size) (fun v=>s'.size - strSize v)
     case atStart=>exact ⟨t,rfl,ZB,by omega⟩
     case round =>
      obtain ⟨t',rfl,ZT,ht'⟩:=hrel
      by_cases hlt2:t'.size<s'.size
      ·go_wp2
       go_round
       case rel=>exact ⟨_,rfl,zero_ahead ZT.out,by rw [zero_size]; omega⟩
       case measure=>simp only [strSize]; rw [zero_size]; omega
      ·have hsz:s'.size=t'.size:=by omega
       have h1:=zeros_less AA.out AB.out ZS.out ZT.out hsz
       have h2:=zeros_eq AA.out AB.out ZS.out ZT.out hsz
       clear hsz
       rcases Nat.lt_trichotomy (val l) (val r) with h | h | h
       ·have hb1:Op.bytesLess s'.toList t'.toList=true:=h1.2 h
        have HO:Hid (cmpId s.data.toList t.data.toList=-1):=by have:=HG.out; rw [ordN_lt h,if_neg (by decide)] at this; exact this
        clear h h1 h2
        go_wp2
        go_ret
        exact ⟨by rw [HO.out]; rfl,rfl⟩
       ·have hb1:Op.bytesLess s'.toList t'.toList=false:=by rw [← Bool.not_eq_true,h1]; omega
        have hb2:(s'.toList == t'.toList)=true:=h2.2 h
        have hne:=HVI.out h
        have HO:Hid (cmpId s.data.toList t.data.toList=ordN s.size t.size):=by have:=HG.out; rw [ordN_eq h,if_pos rfl] at this; exact this
        clear h h1 h2
        by_cases hlen:s.size<t.size
        ·have HO2:=Lib.hid (HO.out.trans (ordN_lt hlen))
         clear hne
         go_wp2
         go_ret
         exact ⟨by rw [HO2.out]; rfl,rfl⟩
        ·have HO2:=Lib.hid (HO.out.trans (ordN_gt (by omega)))
         clear hne
         go_wp2
         go_ret
         exact ⟨by rw [HO2.out]; rfl,rfl⟩
       ·have hb1:Op.bytesLess s'.toList t'.toList=false:=by rw [← Bool.not_eq_true,h1]; omega
        have hb2:(s'.toList == t'.toList)=false:=by rw [← Bool.not_eq_true,h2]; omega
        have HO:Hid (cmpId s.data.toList t.data.toList=1):=by have:=HG.out; rw [ordN_gt h,if_neg (by decide)] at this; exact this
        clear h h1 h2
        go_wp2
        go_ret
        exact ⟨by rw [HO.out]; rfl,rfl⟩

theorem drop_rows (xs:List (List UInt8)) (k:Nat) (h:k<xs.length):xs.drop k=xs.getD k [] :: xs.drop (k+1):=by
 rw [List.drop_eq_getElem_cons h]; simp [List.getD,List.getElem?_eq_getElem h]
theorem text_mem (xs:List (List UInt8)) (k:Nat) (h:k<xs.length):xs.getD k [] ∈ xs:=by simp [List.getD,List.getElem?_eq_getElem h]
theorem refRows_end {xs ys:List (List UInt8)} {k:Nat} (h:¬ (k<xs.length∧k<ys.length)) (h1:k≤xs.length) (h2:k≤ys.length):cmpRows (xs.drop k) (ys.drop k)=ordN xs.length ys.length:=by
 have e:cmpRows (xs.drop k) (ys.drop k)=ordN (xs.drop k).length (ys.drop k).length:=by
  rcases Nat.lt_or_ge k xs.length with g | g
  ·rw [show ys.drop k=[] from List.drop_eq_nil_of_le (by omega),cmpRows_nil']; rfl
  ·rw [show xs.drop k=[] from List.drop_eq_nil_of_le g,cmpRows_nil]; rfl
 rw [e,List.length_drop,List.length_drop]
 rcases Nat.lt_trichotomy xs.length ys.length with g | g | g
 ·rw [ordN_lt g,ordN_lt (by omega)]
 ·rw [ordN_eq g,ordN_eq (by omega)]
 ·rw [ordN_gt g,ordN_gt (by omega)]

theorem refRows_all (A:Option Addr) (a ca:Nat) (xs:List (List UInt8)) (B:Option Addr) (b cb:Nat) (ys:List (List UInt8)) (w:World) (hA:SRow w A a xs) (hB:SRow w B b ys) (ha:a≤maxLen) (hb:b≤maxLen) (hx:∀ x ∈ xs,x.length≤maxLen) (hy:∀ y ∈ ys,y.length≤maxLen) :
  Calls Tryz.prog 91 #[.slice A a ca,.slice B b cb] w fun e w'=>e=.returned (.int .i64 (cmpRows xs ys))∧Below w.heap.size w w':=by
 unfold maxLen at ha hb
 have HA:=Lib.hid hA
 have HB:=Lib.hid hB
 have HX:=Lib.hid hx
 have HY:=Lib.hid hy
 have HLA:=Lib.hid hA.1
 have HLB:=Lib.hid hB.1
 clear hA hB hx hy
 go_enter Tryz.func91,Tryz.ntmps91
 go_wp2
 go_loopw [5] (fun i W=>∃ k:Nat,k≤a∧k≤b∧i=.int .i64 k∧Hid (cmpRows (xs.drop k) (ys.drop k)=cmpRows xs ys)∧Hid (Below w.heap.size w W)) (fun i _=>a - (intOf i).toNat)
 case atStart=>exact ⟨0,Nat.zero_le _,Nat.zero_le _,rfl,rfl,Below.refl _ _⟩
 case round =>
  obtain ⟨k,hk1,hk2,rfl,HG,HW⟩:=hrel
  by_cases hka:k<a
  ·by_cases hkb:k<b
   ·obtain ⟨g1,o1,rfl,hg1,hc1⟩:=(HA.out.kept HW.out).2 (by omega)
    obtain ⟨g2,o2,rfl,hg2,hc2⟩:=(HB.out.kept HW.out).2 (by omega)
    have hx1:=hc1 k hka
    have hx2:=hc2 k hkb
    clear hc1 hc2
    have HZ1:=Lib.hid (HX.out _ (text_mem xs k (by rw [HLA.out]; exact hka)))
    have HZ2:=Lib.hid (HY.out _ (text_mem ys k (by rw [HLB.out]; exact hkb)))
    have HD:Hid (cmpRows xs ys=if cmpId (xs.getD k []) (ys.getD k [])=0 then cmpRows (xs.drop (k+1)) (ys.drop (k+1)) else cmpId (xs.getD k []) (ys.getD k [])):=by
     unfold Hid
     rw [← HG.out,drop_rows xs k (by rw [HLA.out]; exact hka),drop_rows ys k (by rw [HLB.out]; exact hkb),cmpRows]
    generalize xs.getD k []=s at hx1 HZ1 HD
    generalize ys.getD k []=t at hx2 HZ2 HD
    go_wp2
    go_still_tail 8,(by kernel_rfl)
    change wpList _ _ _ _ _ wr.drew
    have HW2:=Lib.hid HW.out.drew
    generalize wr.drew=w2 at HW2
    clear hx1 hx2
    go_wp2_with fail
    refine (refCmp_all (mk s) (mk t) _ HZ1.out HZ2.out).mono ?_
    rintro e w' ⟨rfl,rfl⟩
    rw [mk_list,mk_list]
    generalize cmpId s t=c at HD ⊢
    by_cases hc:c=0
    ·have HD2:Hid (cmpRows (xs.drop (k+1)) (ys.drop (k+1))=cmpRows xs ys):=by have:=HD.out; rw [if_pos hc] at this; exact this.symm
     subst hc
     clear HD
     go_wp2
     exact ⟨⟨k+1,by omega,by omega,by go_num,HD2.out,HW2.out⟩,by simp [intOf]; omega⟩
    ·have HD2:Hid (cmpRows xs ys=c):=by have:=HD.out; rw [if_neg hc] at this; exact this
     have hn:(c == 0)=false:=by simp [hc]
     have hn2:(c != 0)=true:=by simp [hc]
     clear HD hc
     go_wp2
     go_ret
     exact ⟨by rw [HD2.out]; rfl,HW2.out⟩
   ·have HE:Hid (cmpRows xs ys=ordN a b):=by unfold Hid; rw [← HG.out,refRows_end (by rw [HLA.out,HLB.out]; omega) (by rw [HLA.out]; omega) (by rw [HLB.out]; omega),HLA.out,HLB.out]
    have HE2:=Lib.hid (HE.out.trans (ordN_gt (by omega)))
    go_wp2
    go_ret
    exact ⟨by rw [HE2.out]; rfl,HW.out⟩
  ·have HE:Hid (cmpRows xs ys=ordN a b):=by unfold Hid; rw [← HG.out,refRows_end (by rw [HLA.out,HLB.out]; omega) (by rw [HLA.out]; omega) (by rw [HLB.out]; omega),HLA.out,HLB.out]
   obtain rfl:k=a:=by omega
   rcases Nat.lt_or_ge k b with hlt | hge
   ·have HE2:=Lib.hid (HE.out.trans (ordN_lt hlt))
    go_wp2
    go_ret
    exact ⟨by rw [HE2.out]; rfl,HW.out⟩
   ·obtain rfl:k=b:=by omega
    have HE2:=Lib.hid (HE.out.trans (ordN_eq rfl))
    go_wp2
    go_ret
    exact ⟨by rw [HE2.out]; rfl,HW.out⟩
end Go.Proofs.YtnpjklaaokiikaaGreatDoor.Ident
