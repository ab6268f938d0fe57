/-
  What the theorem of the last text needs of these: NmPlain, NmGood. Conditions: as each theorem states.
-/
import Derived.Test.YtgfbflnhjpbceaaGreatDoorSetB1
import Derived.Test.YtgfbflnhjpbceaaGreatDoorSetB20
set_option maxRecDepth 100000
set_option maxHeartbeats 25600000
namespace Go.Proofs.YtgfbflnhjpbceaaGreatDoor.Nrm
open Go.RowKit Num Ident Semver Prec Span
open Range (Rng noRng goodR goodL fits wt wtL)

def isPoint (a b:Cut):Bool:=decide (a.kind=1∧b.kind=2∧cmpV a.v b.v=0)
theorem isPoint_iff (a b:Cut):isPoint a b=true↔a.kind=1∧b.kind=2∧cmpV a.v b.v=0:=by simp [isPoint]
def few (kind:Int) (l:List Rng):Rng:=if l.length=0 then noRng else if l.length=1 then l.getD 0 noRng else .mk kind noVer l
def loPart (c:Cut):List Rng:=if c.kind=1 then [.mk 1 c.v []] else if c.kind=2 then [.mk 2 c.v []] else []
def hiPart (c:Cut):List Rng:=if c.kind=1 then [.mk 4 c.v []] else if c.kind=2 then [.mk 3 c.v []] else []
def neOf (s:Sp):Rng:=.mk 6 s.hi.v []
def lastOf (l:List Sp):Sp:=l.getD (l.length - 1) default
def parts (l:List Sp):List Rng:=loPart (l.getD 0 default).lo ++ hiPart (lastOf l).hi ++ (l.take (l.length - 1)).map neOf
def pieceR (l:List Sp):Rng:=if isPoint (l.getD 0 default).lo (l.getD 0 default).hi=true then .mk 5 (l.getD 0 default).lo.v [] else few 9 (parts l)
def grp:List Sp→List Sp→List (List Sp)
 | row,[]=>[row]
 | row,s :: rest=>if isPoint (lastOf row).hi s.lo=true then grp (row ++ [s]) rest else row :: grp [s] rest
def piecesR:List Sp→List Rng
 | []=>[]
 | s :: l=>(grp [s] l).map pieceR
def plainR (l:List Sp):Rng:=if l.length=0 then .mk 11 noVer [noRng] else few 10 (piecesR l)

theorem few_none (kind:Int):few kind []=noRng:=rfl
theorem few_one (kind:Int) (r:Rng):few kind [r]=r:=rfl
theorem few_more (kind:Int) {l:List Rng} (h:2≤l.length):few kind l=.mk kind noVer l:=by unfold few; rw [if_neg (by omega),if_neg (by omega)]
theorem few_cases {l:List Rng} (P:List Rng→Prop) (h0:P []) (h1:∀ r,P [r]) (h2:2≤l.length→P l):P l:=by
 match l,h2 with
 | [],_=>exact h0
 | [r],_=>exact h1 r
 | a :: b :: l,h2=>exact h2 (by simp)

theorem inS_cons (s:Sp) (l:List Sp) (c:Cut):inS (s :: l) c↔inOne s c∨inS l c:=by
 constructor
 ·rintro ⟨x,hx,h⟩
  rcases List.mem_cons.1 hx with rfl | hx
  ·exact .inl h
  ·exact .inr ⟨x,hx,h⟩
 ·rintro (h | ⟨x,hx,h⟩)
  ·exact ⟨s,List.mem_cons_self ..,h⟩
  ·exact ⟨x,List.mem_cons_of_mem _ hx,h⟩
theorem ahead_is {a:Cut} (ha:Span.right a=true) (h:a.kind=1):aheadOf a.v=a:=by
 obtain ⟨k,v⟩:=a
 simp only at h
 subst h
 show Cut.mk 1 (bare v)=⟨1,v⟩
 rw [right_bare ha]
theorem behind_is {a:Cut} (ha:Span.right a=true) (h:a.kind=2):behindOf a.v=a:=by
 obtain ⟨k,v⟩:=a
 simp only at h
 subst h
 show Cut.mk 2 (bare v)=⟨2,v⟩
 rw [right_bare ha]
theorem point_next {a b:Cut} (ha:Span.right a=true) (hb:Span.right b=true) (h:isPoint a b=true):aheadOf a.v=a∧behindOf a.v=b∧a.v=b.v:=by
 obtain ⟨h1,h2,h3⟩:=(isPoint_iff a b).1 h
 have e:=ver_same h3 (right_few ha).2 (right_few hb).2
 exact ⟨ahead_is ha h1,by rw [e]; exact behind_is hb h2,e⟩
theorem ver_good {a:Cut} (ha:Span.right a=true) (h:a.kind=1∨a.kind=2):goodV a.v=true:=by
 rw [right_ver h,Bool.and_eq_true] at ha; exact ha.1

def Chain (l:List Sp):Prop:=∀ i,i+1<l.length→isPoint (l.getD i default).hi (l.getD (i+1) default).lo=true
theorem Chain.tail {s:Sp} {l:List Sp} (h:Chain (s :: l)):Chain l:=fun i hi=>h (i+1) (by simp; omega)
theorem last_cons (s t:Sp) (r:List Sp):lastOf (s :: t :: r)=lastOf (t :: r):=rfl
theorem last_mem {l:List Sp} (h:l≠[]):lastOf l ∈ l:=by
 have hp:0<l.length:=List.length_pos_iff.2 h
 unfold lastOf
 rw [List.getD_eq_getElem?_getD,List.getElem?_eq_getElem (by omega)]
 exact List.getElem_mem _
theorem row_sem:∀ (l:List Sp),Span.Norm l→l≠[]→Chain l→∀ c,inS l c↔stand (l.getD 0 default).lo c≤0∧stand c (lastOf l).hi<0∧∀ s ∈ l.take (l.length - 1),¬ inOne ⟨aheadOf s.hi.v,behindOf s.hi.v⟩ c
 | [],_,h,_,_=>absurd rfl h
 | [s],_,_,_,c=>by
  rw [inS_one]
  exact ⟨fun h=>⟨h.1,h.2,fun x hx=>by simp at hx⟩,fun h=>⟨h.1,h.2.1⟩⟩
 | s :: t :: r,hn,_,hc,c=>by
  have IH:=row_sem (t :: r) hn.tail (by simp) hc.tail c
  have hs:=hn.head
  have ht:=hn.tail.head
  have hp:isPoint s.hi t.lo=true:=hc 0 (by simp)
  obtain ⟨e1,e2,_⟩:=point_next hs.2.1 ht.1 hp
  have hst:stand s.hi t.lo<0:=hn.ahead t (by simp)
  have hlast:lastOf (t :: r) ∈ t :: r:=last_mem (by simp)
  have htake:(s :: t :: r).take ((s :: t :: r).length - 1)=s :: (t :: r).take ((t :: r).length - 1):=rfl
  rw [inS_cons,IH,last_cons,htake]
  show _↔stand s.lo c≤0∧_
  constructor
  ·rintro (h | ⟨h1,h2,h3⟩)
   ·refine ⟨h.1,lt_lt h.2 (lt_lt (hn.ahead _ hlast) ((cnt_iff _).1 (hn.tail.cnt _ hlast)).2.2),fun x hx k=>?_⟩
    rcases List.mem_cons.1 hx with rfl | hx
    ·rw [e1,e2] at k; exact lt_not h.2 k.1
    ·have hm:x ∈ t :: r:=List.mem_of_mem_take hx
     have h5:=lt_lt h.2 (lt_lt (hn.ahead x hm) ((cnt_iff _).1 (hn.tail.cnt x hm)).2.2)
     have hxk:aheadOf x.hi.v=x.hi:=by
      obtain ⟨i,hi,hxi⟩:=List.mem_take_iff_getElem.1 hx
      have hlt:i+1<(t :: r).length:=by omega
      have hpx:=hc.tail i hlt
      have hx':(t :: r).getD i default=x:=by
       rw [List.getD_eq_getElem?_getD,List.getElem?_eq_getElem (by omega)]; exact hxi
      rw [hx'] at hpx
      exact ahead_is ((cnt_iff _).1 (hn.tail.cnt x hm)).2.1 ((isPoint_iff _ _).1 hpx).1
     rw [hxk] at k
     exact lt_not h5 k.1
   ·refine ⟨Int.le_of_lt (lt_le (lt_lt hs.2.2 hst) h1),h2,fun x hx=>?_⟩
    rcases List.mem_cons.1 hx with rfl | hx
    ·intro k; rw [e1,e2] at k; exact lt_not k.2 h1
    ·exact h3 x hx
  ·rintro ⟨h1,h2,h3⟩
   by_cases h4:stand c s.hi<0
   ·exact .inl ⟨h1,h4⟩
   ·right
    have h5:=not_lt h4
    have h6:=h3 s (List.mem_cons_self ..)
    rw [e1,e2] at h6
    refine ⟨?_,h2,fun x hx=>h3 x (List.mem_cons_of_mem _ hx)⟩
    show stand t.lo c≤0
    exact not_lt fun g=>h6 ⟨h5,g⟩
theorem first_point {l:List Sp} (hn:Span.Norm l) (hl:l≠[]) (hc:Chain l) (h:isPoint (l.getD 0 default).lo (l.getD 0 default).hi=true):∃ s,l=[s]:=by
 match l,hl with
 | [s],_=>exact ⟨s,rfl⟩
 | s :: t :: r,_ =>
  have h1:=(isPoint_iff _ _).1 h
  have h2:=(isPoint_iff _ _).1 (hc 0 (by simp))
  have e1:s.hi.kind=2:=h1.2.1
  have e2:s.hi.kind=1:=h2.1
  omega
theorem getD0_mem {l:List Sp} (h:l≠[]):l.getD 0 default ∈ l:=by
 cases l with
 | nil=>exact absurd rfl h
 | cons s l=>exact List.mem_cons_self ..
theorem good_ver {k:Int} (h1:1≤k) (h8:k≤8) {v:Ver} (hv:goodV v=true) {d:Nat} (hd:d≤64):goodR (.mk k v []) d=true:=by
 rw [Range.goodR_eq,Bool.and_eq_true,Bool.and_eq_true,decide_eq_true_eq]
 refine ⟨⟨hd,?_⟩,rfl⟩
 unfold fits
 rw [if_pos (by unfold Range.ofVersion; simp; omega),hv]; rfl
theorem opens_ver (o:Int) {k:Int} (h8:k≤8) (ho:o≠11):Range.opens o k=0:=by
 unfold Range.opens Range.bracketed
 rw [if_neg ho,if_neg (by simp; omega)]
theorem goodL_of {o:Int} {l:List Rng} {d:Nat} (h:∀ x ∈ l,goodR x (d+Range.opens o x.kind)=true):goodL o l d=true:=by
 induction l with
 | nil=>rfl
 | cons x l ih =>
  rw [Range.goodL_cons,Bool.and_eq_true]
  exact ⟨h x (List.mem_cons_self ..),ih fun y hy=>h y (List.mem_cons_of_mem _ hy)⟩
theorem zero_good {d:Nat} (hd:d≤64):goodR noRng d=true:=by
 show goodR (.mk 0 noVer []) d=true
 rw [Range.goodR_eq,Bool.and_eq_true,Bool.and_eq_true,decide_eq_true_eq]
 exact ⟨⟨hd,by decide⟩,rfl⟩
theorem few_good {k:Int} (hk:k=9∨k=10) {l:List Rng} (h:∀ x ∈ l,goodR x 0=true∧Range.opens k x.kind=0):goodR (few k l) 0=true:=by
 revert h
 refine few_cases (fun l=>(∀ x ∈ l,goodR x 0=true∧Range.opens k x.kind=0)→goodR (few k l) 0=true) (fun _=>zero_good (by omega)) (fun r h=>(h r (List.mem_singleton.2 rfl)).1) (fun h2 h=>?_)
 rw [few_more k h2,Range.goodR_eq,Bool.and_eq_true,Bool.and_eq_true,decide_eq_true_eq]
 exact ⟨⟨by omega,Range.fits_many hk h2⟩,goodL_of fun x hx=>by rw [(h x hx).2]; exact (h x hx).1⟩
theorem parts_ver {l:List Sp} (hn:Span.Norm l) (hl:l≠[]) (hc:Chain l):∀ x ∈ parts l,∃ k v,x=.mk k v []∧1≤k∧k≤8∧goodV v=true:=by
 intro x hx
 have r0:=(cnt_iff _).1 (hn.cnt _ (getD0_mem hl))
 have r9:=(cnt_iff _).1 (hn.cnt _ (last_mem hl))
 unfold parts at hx
 rcases List.mem_append.1 hx with hx | hx
 ·rcases List.mem_append.1 hx with hx | hx
  ·unfold loPart at hx
   by_cases h1:(l.getD 0 default).lo.kind=1
   ·rw [if_pos h1,List.mem_singleton] at hx; exact ⟨1,_,hx,by omega,by omega,ver_good r0.1 (.inl h1)⟩
   ·rw [if_neg h1] at hx
    by_cases h2:(l.getD 0 default).lo.kind=2
    ·rw [if_pos h2,List.mem_singleton] at hx; exact ⟨2,_,hx,by omega,by omega,ver_good r0.1 (.inr h2)⟩
    ·rw [if_neg h2] at hx; cases hx
  ·unfold hiPart at hx
   by_cases h1:(lastOf l).hi.kind=1
   ·rw [if_pos h1,List.mem_singleton] at hx; exact ⟨4,_,hx,by omega,by omega,ver_good r9.2.1 (.inl h1)⟩
   ·rw [if_neg h1] at hx
    by_cases h2:(lastOf l).hi.kind=2
    ·rw [if_pos h2,List.mem_singleton] at hx; exact ⟨3,_,hx,by omega,by omega,ver_good r9.2.1 (.inr h2)⟩
    ·rw [if_neg h2] at hx; cases hx
 ·obtain ⟨s,hs,rfl⟩:=List.mem_map.1 hx
  obtain ⟨i,hi,hxi⟩:=List.mem_take_iff_getElem.1 hs
  have hlt:i+1<l.length:=by omega
  have hpx:=hc i hlt
  have hx':l.getD i default=s:=by
   rw [List.getD_eq_getElem?_getD,List.getElem?_eq_getElem (by omega)]; exact hxi
  rw [hx'] at hpx
  exact ⟨6,_,rfl,by omega,by omega,ver_good ((cnt_iff _).1 (hn.cnt s (List.mem_of_mem_take hs))).2.1 (.inl ((isPoint_iff _ _).1 hpx).1)⟩
theorem few_kind {k:Int} {l:List Rng} {P:Int→Prop} (h0:P 0) (hk:P k) (h:∀ x ∈ l,P x.kind):P (few k l).kind:=by
 revert h
 refine few_cases (fun l=>(∀ x ∈ l,P x.kind)→P (few k l).kind) (fun _=>h0) (fun r h=>h r (List.mem_singleton.2 rfl)) (fun h2 h=>?_)
 rw [few_more k h2]; exact hk
theorem piece_good {l:List Sp} (hn:Span.Norm l) (hl:l≠[]) (hc:Chain l):goodR (pieceR l) 0=true∧Range.opens 10 (pieceR l).kind=0:=by
 have hv:=parts_ver hn hl hc
 unfold pieceR
 by_cases hp:isPoint (l.getD 0 default).lo (l.getD 0 default).hi=true
 ·rw [if_pos hp]
  exact ⟨good_ver (by omega) (by omega) (ver_good ((cnt_iff _).1 (hn.cnt _ (getD0_mem hl))).1 (.inl ((isPoint_iff _ _).1 hp).1)) (by omega),opens_ver 10 (by simp [Range.Rng.kind]) (by omega)⟩
 ·rw [if_neg hp]
  refine ⟨few_good (.inl rfl) fun x hx=>?_,?_⟩
  ·obtain ⟨k,v,rfl,h1,h2,h3⟩:=hv x hx
   exact ⟨good_ver h1 h2 h3 (by omega),opens_ver 9 h2 (by omega)⟩
  ·refine few_kind (P:=fun k=>Range.opens 10 k=0) rfl rfl fun x hx=>?_
   obtain ⟨k,v,rfl,h1,h2,h3⟩:=hv x hx
   exact opens_ver 10 h2 (by omega)
theorem norm_append {a b:List Sp} (h:Span.Norm (a ++ b)):Span.Norm a∧Span.Norm b:=by
 have hp:=List.pairwise_append.1 h.gap
 exact ⟨⟨fun s hs=>h.cnt s (List.mem_append_left _ hs),hp.1⟩,⟨fun s hs=>h.cnt s (List.mem_append_right _ hs),hp.2.1⟩⟩
theorem last_snoc (l:List Sp) (s:Sp):lastOf (l ++ [s])=s:=by unfold lastOf; simp
theorem Chain.snoc {l:List Sp} {s:Sp} (h:Chain l) (hl:l≠[]) (hp:isPoint (lastOf l).hi s.lo=true):Chain (l ++ [s]):=by
 intro i hi
 have hpos:0<l.length:=List.length_pos_iff.2 hl
 rw [List.length_append] at hi
 simp only [List.length_singleton] at hi
 by_cases h1:i+1<l.length
 ·have:=h i h1
  simp only [List.getD_eq_getElem?_getD] at this ⊢
  rw [List.getElem?_append_left (by omega),List.getElem?_append_left (by omega)]
  exact this
 ·obtain rfl:i=l.length - 1:=by omega
  have e1:(l ++ [s]).getD (l.length - 1) default=lastOf l:=by
   unfold lastOf
   simp only [List.getD_eq_getElem?_getD]
   rw [List.getElem?_append_left (by omega)]
  have e2:(l ++ [s]).getD (l.length - 1+1) default=s:=by
   simp only [List.getD_eq_getElem?_getD]
   rw [show l.length - 1+1=l.length by omega,List.getElem?_append_right (Nat.le_refl _)]
   simp
  rw [e1,e2]; exact hp
theorem Chain.one (s:Sp):Chain [s]:=fun i hi=>by simp at hi
theorem grp_all:∀ (rest row:List Sp),row≠[]→Span.Norm (row ++ rest)→Chain row→(∀ g ∈ grp row rest,g≠[]∧Span.Norm g∧Chain g)∧(grp row rest).flatten=row ++ rest
 | [],row,hr,hn,hc=>by
  rw [grp]
  refine ⟨fun g hg=>?_,by simp⟩
  rw [List.mem_singleton] at hg; subst hg
  exact ⟨hr,by simpa using hn,hc⟩
 | s :: rest,row,hr,hn,hc=>by
  rw [grp]
  by_cases hp:isPoint (lastOf row).hi s.lo=true
  ·rw [if_pos hp]
   have h1:=grp_all rest (row ++ [s]) (by simp) (by simpa using hn) (hc.snoc hr hp)
   exact ⟨h1.1,by rw [h1.2]; simp⟩
  ·rw [if_neg hp]
   have hs:=norm_append hn
   have h1:=grp_all rest [s] (by simp) (by simpa using hs.2) (Chain.one s)
   refine ⟨fun g hg=>?_,by rw [List.flatten_cons,h1.2]; simp⟩
   rcases List.mem_cons.1 hg with rfl | hg
   ·exact ⟨hr,hs.1,hc⟩
   ·exact h1.1 g hg
theorem plain_good {o:List Sp} (h:Span.Norm o):goodR (plainR o) 0=true:=by
 unfold plainR
 cases o with
 | nil=>decide
 | cons s l =>
  rw [if_neg (by simp)]
  obtain ⟨h1,_⟩:=grp_all l [s] (by simp) h (Chain.one s)
  refine few_good (.inr rfl) fun x hx=>?_
  obtain ⟨g,hg,rfl⟩:=List.mem_map.1 hx
  obtain ⟨a,b,d⟩:=h1 g hg
  exact piece_good b a d

theorem wtL_append:∀ a b:List Rng,wtL (a ++ b)=wtL a+wtL b
 | [],b=>by simp [wtL]
 | x :: a,b=>by rw [List.cons_append,Range.wtL_cons,Range.wtL_cons,wtL_append a b]; omega
theorem few_wt (k:Int) (l:List Rng):wt (few k l)≤1+wtL l:=by
 refine few_cases (fun l=>wt (few k l)≤1+wtL l) (by rw [few_none]; decide) (fun r=>?_) (fun h=>?_)
 ·rw [few_one,Range.wtL_cons]; omega
 ·rw [few_more k h,Range.wt_eq]; exact Nat.le_refl _
theorem ver_wtL {l:List Rng} (h:∀ x ∈ l,∃ k v,x=.mk k v []):wtL l=l.length:=by
 induction l with
 | nil=>rfl
 | cons x l ih =>
  obtain ⟨k,v,rfl⟩:=h x (List.mem_cons_self ..)
  rw [Range.wtL_cons,ih fun y hy=>h y (List.mem_cons_of_mem _ hy),Range.wt_eq]
  show 1+0+l.length=l.length+1
  omega
theorem parts_len (l:List Sp) (hl:l≠[]):(parts l).length≤l.length+1:=by
 have hpos:0<l.length:=List.length_pos_iff.2 hl
 have h1:∀ c,(loPart c).length≤1:=fun c=>by
  unfold loPart
  by_cases a:c.kind=1
  ·rw [if_pos a]; exact Nat.le_refl _
  ·by_cases b:c.kind=2
   ·rw [if_neg a,if_pos b]; exact Nat.le_refl _
   ·rw [if_neg a,if_neg b]; exact Nat.zero_le _
 have h2:∀ c,(hiPart c).length≤1:=fun c=>by
  unfold hiPart
  by_cases a:c.kind=1
  ·rw [if_pos a]; exact Nat.le_refl _
  ·by_cases b:c.kind=2
   ·rw [if_neg a,if_pos b]; exact Nat.le_refl _
   ·rw [if_neg a,if_neg b]; exact Nat.zero_le _
 unfold parts
 rw [List.length_append,List.length_append,List.length_map,List.length_take]
 have a:=h1 (l.getD 0 default).lo
 have b:=h2 (lastOf l).hi
 omega
theorem piece_wt {l:List Sp} (hn:Span.Norm l) (hl:l≠[]) (hc:Chain l):wt (pieceR l)≤3 * l.length:=by
 have hpos:0<l.length:=List.length_pos_iff.2 hl
 unfold pieceR
 by_cases hp:isPoint (l.getD 0 default).lo (l.getD 0 default).hi=true
 ·rw [if_pos hp,Range.wt_eq]
  show 1+0≤_
  omega
 ·rw [if_neg hp]
  have h1:=few_wt 9 (parts l)
  have h2:=ver_wtL (l:=parts l) fun x hx=>by obtain ⟨k,v,e,_⟩:=parts_ver hn hl hc x hx; exact ⟨k,v,e⟩
  have h3:=parts_len l hl
  omega
theorem plain_wt {o:List Sp} (h:Span.Norm o):wt (plainR o)≤3 * o.length+2:=by
 unfold plainR
 cases o with
 | nil=>decide
 | cons s l =>
  rw [if_neg (by simp)]
  obtain ⟨h1,h2⟩:=grp_all l [s] (by simp) h (Chain.one s)
  have e:s :: l=(grp [s] l).flatten:=by rw [h2]; rfl
  have h3:=few_wt 10 (piecesR (s :: l))
  have h4:∀ L:List (List Sp),(∀ g ∈ L,g≠[]∧Span.Norm g∧Chain g)→wtL (L.map pieceR)≤3 * L.flatten.length:=by
   intro L
   induction L with
   | nil=>intro _; exact Nat.le_refl _
   | cons g L ih =>
    intro hL
    obtain ⟨a,b,d⟩:=hL g (List.mem_cons_self ..)
    have h5:=ih fun x hx=>hL x (List.mem_cons_of_mem _ hx)
    have h6:=piece_wt b a d
    rw [List.map_cons,Range.wtL_cons,List.flatten_cons,List.length_append]
    omega
  have h7:=h4 _ h1
  rw [← e] at h7
  have h8:wtL (piecesR (s :: l))≤3 * (s :: l).length:=h7
  omega
end Go.Proofs.YtgfbflnhjpbceaaGreatDoor.Nrm
namespace Go.Proofs.YtgfbflnhjpbceaaGreatDoor.Range
open Go.RowKit Num Ident Semver
theorem fits_ver {k:Int} {v:Ver} {n:Nat} (h:ofVersion k=true):fits k v n=(goodV v && decide (n=0)):=by unfold fits; rw [if_pos h]
theorem fits_un {k:Int} {v:Ver} {n:Nat} (h:ofVersion k=false) (h2:sameV v noVer=false):fits k v n=false:=by unfold fits; rw [if_neg (by simp [h]),if_pos h2]
theorem fits_zero {k:Int} {v:Ver} {n:Nat} (h:ofVersion k=false) (h2:sameV v noVer=true):fits k v n=if k=0 then decide (n=0) else if k=9∨k=10 then decide (2≤n) else if k=11 then decide (n=1) else false:=by
 unfold fits; rw [if_neg (by simp [h]),if_neg (by simp [h2])]
theorem fits_full (x:RV) (w:World) (hr1:SRow w x.A x.v.pre.length x.v.pre) (hr2:SRow w x.B x.v.build.length x.v.build) (hf:FitV x.v) :
  Calls Tryz.prog 77 #[x.agg] w fun e w'=>e=.returned (.bool (fits x.kind x.v x.n))∧Below w.heap.size w w':=by
 have HB:Hid (Below w.heap.size w (w.alloc x)):=(Below.refl _ _).alloc (Nat.le_refl _) _
 have HRA:Hid (RAt (w.alloc x) w.heap.size x):=RAt.new w _ x
 have HR1:=Lib.hid (hr1.kept HB.out)
 have HR2:=Lib.hid (hr2.kept HB.out)
 have HF:=Lib.hid hf
 clear hr1 hr2 hf
 unfold RV.agg
 generalize hR:fits x.kind x.v x.n=R
 have HR:=Lib.hid hR
 clear hR
 go_enter Tryz.func77,Tryz.ntmps77
 go_upto_region 1 with (fail)
 generalize w.alloc x=W at HB HRA HR1 HR2 ⊢
 obtain ⟨y1,y2,c0,c1,c2,c3,c4,c5,c6⟩:=HRA.out
 cases hov:ofVersion x.kind with
 | true =>
  have HOV:=Lib.hid hov
  have HE:Hid (R=(goodV x.v && decide (x.n=0))):=by unfold Hid; rw [← HR.out]; exact fits_ver hov
  clear hov HR
  go_wp2_with fail
  refine (ofVersion_any x.kind W).mono ?_
  rintro e w' ⟨rfl,rfl⟩
  rw [HOV.out]
  go_wp2_with fail
  refine (vgood_any x.v x.A x.c x.B x.d w' HR1.out HR2.out HF.out.pre HF.out.build HF.out.pres HF.out.builds).mono ?_
  rintro e W2 ⟨rfl,hb⟩
  have HB2:=Lib.hid (HB.out.trans (hb.mono HB.out.size))
  have HRA2:=Lib.hid (HRA.out.kept hb HRA.out.1)
  clear hb y1 y2 c0 c1 c2 c3 c4 c5 c6
  obtain ⟨y1,y2,c0,c1,c2,c3,c4,c5,c6⟩:=HRA2.out
  cases hgv:goodV x.v with
  | true =>
   by_cases hn:x.n=0
   ·obtain rfl:R=true:=by rw [HE.out,hgv,hn]; rfl
    rw [hn] at c6
    clear HE hgv hn
    go_wp2; go_ret
    exact ⟨rfl,HB2.out⟩
   ·obtain rfl:R=false:=by rw [HE.out,decide_eq_false hn,Bool.and_false]
    have q0:((x.n:Int) == 0)=false:=beq_eq_false_iff_ne.2 (by omega)
    clear hn HE hgv
    go_wp2; go_ret
    exact ⟨rfl,HB2.out⟩
  | false =>
   obtain rfl:R=false:=by rw [HE.out,hgv]; rfl
   clear HE hgv
   go_wp2; go_ret
   exact ⟨rfl,HB2.out⟩
 | false =>
  have HOV:=Lib.hid hov
  have HE1:Hid (sameV x.v noVer=false→R=false):=fun h=>by rw [← HR.out]; exact fits_un hov h
  have HE2:Hid (sameV x.v noVer=true→R=if x.kind=0 then decide (x.n=0) else if x.kind=9∨x.kind=10 then decide (2≤x.n) else if x.kind=11 then decide (x.n=1) else false):=fun h=>by rw [← HR.out]; exact fits_zero hov h
  clear hov HR
  go_wp2_with fail
  refine (ofVersion_any x.kind W).mono ?_
  rintro e w' ⟨rfl,rfl⟩
  rw [HOV.out]
  go_wp2_with fail
  refine (same_parts x.A x.v.pre.length x.c x.v.pre x.B x.v.build.length x.d x.v.build none 0 0 [] none 0 0 [] x.v.a x.v.b x.v.c 0 0 0 w' HR1.out HR2.out (srow_none _ _) (srow_none _ _) HF.out.pre HF.out.build (Nat.zero_le _) (Nat.zero_le _)).mono ?_
  rintro e W2 ⟨rfl,hb⟩
  have HB2:=Lib.hid (HB.out.trans (hb.mono HB.out.size))
  have HRA2:=Lib.hid (HRA.out.kept hb HRA.out.1)
  clear hb y1 y2 c0 c1 c2 c3 c4 c5 c6
  obtain ⟨y1,y2,c0,c1,c2,c3,c4,c5,c6⟩:=HRA2.out
  have HS:Hid (sameV ⟨x.v.a,x.v.b,x.v.c,x.v.pre,x.v.build⟩ ⟨0,0,0,[],[]⟩=sameV x.v noVer):=rfl
  rw [HS.out]
  cases hsv:sameV x.v noVer with
  | false =>
   obtain rfl:=HE1.out hsv
   clear hsv HE1 HE2
   go_wp2; go_ret
   exact ⟨rfl,HB2.out⟩
  | true =>
   have hE:=HE2.out hsv
   clear hsv HE1 HE2 HOV HS
   by_cases k0:x.kind=0
   ·rw [if_pos k0] at hE
    rw [k0] at c0
    clear k0
    by_cases hn:x.n=0
    ·obtain rfl:R=true:=by rw [hE,decide_eq_true hn]
     rw [hn] at c6
     clear hE hn
     go_wp2; go_ret
     exact ⟨rfl,HB2.out⟩
    ·have q0:((x.n:Int) == 0)=false:=beq_eq_false_iff_ne.2 (by omega)
     obtain rfl:R=false:=by rw [hE,decide_eq_false hn]
     clear hn hE
     go_wp2; go_ret
     exact ⟨rfl,HB2.out⟩
   ·rw [if_neg k0] at hE
    by_cases k9:x.kind=9∨x.kind=10
    ·rw [if_pos k9] at hE
     by_cases hn:2≤x.n
     ·have hn2:(2:Int)≤(x.n:Int):=by omega
      obtain rfl:R=true:=by rw [hE,decide_eq_true hn]
      clear hn k0 hE
      rcases k9 with k9 | k9 <;> rw [k9] at c0 <;> clear k9 <;> go_wp2 <;> go_ret <;> exact ⟨rfl,HB2.out⟩
     ·have q2:decide ((2:Int)≤(x.n:Int))=false:=decide_eq_false (by omega)
      obtain rfl:R=false:=by rw [hE,decide_eq_false hn]
      clear hn k0 hE
      rcases k9 with k9 | k9 <;> rw [k9] at c0 <;> clear k9 <;> go_wp2 <;> go_ret <;> exact ⟨rfl,HB2.out⟩
    ·rw [if_neg k9] at hE
     by_cases k11:x.kind=11
     ·rw [if_pos k11] at hE
      rw [k11] at c0
      clear k11 k0 k9
      by_cases hn:x.n=1
      ·obtain rfl:R=true:=by rw [hE,decide_eq_true hn]
       rw [hn] at c6
       clear hE hn
       go_wp2; go_ret
       exact ⟨rfl,HB2.out⟩
      ·have q1:((x.n:Int) == 1)=false:=beq_eq_false_iff_ne.2 (by omega)
       obtain rfl:R=false:=by rw [hE,decide_eq_false hn]
       clear hn hE
       go_wp2; go_ret
       exact ⟨rfl,HB2.out⟩
     ·rw [if_neg k11] at hE
      obtain rfl:=hE
      have n9:¬ x.kind=9:=fun h=>k9 (.inl h)
      have n10:¬ x.kind=10:=fun h=>k9 (.inr h)
      have q9:(x.kind == 9)=false:=by simp [n9]
      have q10:(x.kind == 10)=false:=by simp [n10]
      clear k9
      go_wp2; go_ret
      exact ⟨rfl,HB2.out⟩
theorem goodL_at {o:Int} {l:List Rng} {d:Nat}:goodL o l d=true↔∀ j,j<l.length→goodR (l.getD j noRng) (d+opens o (l.getD j noRng).kind)=true:=by
 induction l with
 | nil=>exact ⟨fun _ j hj=>by simp at hj,fun _=>rfl⟩
 | cons y l ih =>
  rw [goodL_cons,Bool.and_eq_true,ih]
  constructor
  ·rintro ⟨h1,h2⟩ j hj
   cases j with
   | zero=>exact h1
   | succ j=>exact h2 j (by simpa using hj)
  ·intro h
   exact ⟨h 0 (by simp),fun j hj=>h (j+1) (by simpa using hj)⟩
theorem goodL_no {o:Int} {l:List Rng} {d j:Nat} (hj:j<l.length) (h:goodR (l.getD j noRng) (d+opens o (l.getD j noRng).kind)=false):goodL o l d=false:=by
 rw [← Bool.not_eq_true,goodL_at]
 intro k
 rw [k j hj] at h; cases h
inductive LenOk:Rng→Prop
 | mk (k:Int) (v:Ver) (l:List Rng) (h:l.length≤9223372036854775807) (hl:∀ y ∈ l,LenOk y):LenOk (.mk k v l)
theorem LenOk.here {r:Rng} (h:LenOk r):r.subs.length≤9223372036854775807:=by cases h with | mk k v l h _=>exact h
theorem LenOk.sub {r y:Rng} (h:LenOk r) (hy:y ∈ r.subs):LenOk y:=by cases h with | mk k v l _ hl=>exact hl y hy
theorem LenOk.of_wt:∀ (m:Nat) (r:Rng),wt r≤m→m≤9223372036854775807→LenOk r
 | 0,r,h,_=>by rw [wt_eq] at h; omega
 | m+1,r,h,hM=>by
  obtain ⟨k,v,l⟩:=r
  rw [wt_eq] at h
  have h2:wtL l≤m:=by have:wtL (Rng.mk k v l).subs=wtL l:=rfl; omega
  exact .mk k v l (by have:=wtL_len l; omega) fun y hy=>LenOk.of_wt m y (Nat.le_trans (wt_mem hy) h2) (by omega)
theorem opens_two (a b:Int):opens a b≤2:=by unfold opens; split <;> split <;> omega
theorem good_full:∀ (m:Nat) (r:Rng) (x:RV) (B d:Nat) (w:World),wt r≤m→LenOk r→Lies w (LtB B) r x→B≤w.heap.size→d≤70 →
  Calls Tryz.prog 42 #[x.agg,.int .i64 d] w fun e w'=>e=.returned (.bool (goodR r d))∧Below w.heap.size w w'
 | 0,r,x,B,d,w,hm,_,hx,hB,hg=>by rw [wt_eq] at hm; omega
 | m+1,r,x,B,d,w,hm,hM,hx,hB,hdd=>by
  have IH:=Lib.hid (fun r x d w=>good_full m r x B d w)
  have hs:=hx.says
  obtain ⟨f,hln,_,_⟩:=hs.subs
  have HFits:=Lib.hid (fun W (hb:Below w.heap.size w W)=>fits_full x W (hs.pre.kept hb) (hs.build.kept hb) hs.fit)
  have HB:Hid (Below w.heap.size w (w.alloc x)):=(Below.refl _ _).alloc (Nat.le_refl _) _
  have HRA:Hid (RAt (w.alloc x) w.heap.size x):=RAt.new w _ x
  have HL:=Lib.hid (hx.keep (KeepS.of_below (S:=LtB B) HB.out))
  have HG:Hid (goodR r d=(decide (d≤64) && fits x.kind x.v x.n && goodL x.kind r.subs d)):=by
   have e1:=hs.kind
   have e2:=hs.ver
   rw [← e1,← e2,← hln]
   obtain ⟨k,v,l⟩:=r
   exact goodR_eq k v l d
  rw [wt_eq] at hm
  have hxn:x.n≤9223372036854775807:=by rw [← hln]; exact hM.here
  have HLO:=Lib.hid hM
  have HLN:=Lib.hid hln
  clear hs hx hln hM
  unfold RV.agg
  generalize hR:goodR r d=R
  replace HG:Hid (R=(decide (d≤64) && fits x.kind x.v x.n && goodL x.kind r.subs d)):=hR.symm.trans HG.out
  clear hR
  go_enter Tryz.func42,Tryz.ntmps42
  go_upto_region 1 with (fail)
  generalize w.alloc x=W at HB HRA HL ⊢
  obtain ⟨y1,y2,c0,c1,c2,c3,c4,c5,c6⟩:=HRA.out
  by_cases hd:¬ d≤64
  ·have hd64:(64:Int)<(d:Int):=by omega
   obtain rfl:R=false:=by rw [HG.out,decide_eq_false hd,Bool.false_and,Bool.false_and]
   clear hd HG
   go_wp2; go_ret
   exact ⟨rfl,HB.out⟩
  replace hd:=Classical.not_not.1 hd
  have hd64:¬ (64:Int)<(d:Int):=by omega
  replace HG:Hid (R=(fits x.kind x.v x.n && goodL x.kind r.subs d)):=by unfold Hid; rw [HG.out,decide_eq_true hd,Bool.true_and]
  go_wp2_with fail
  refine (HFits.out W HB.out).mono ?_
  rintro e W2 ⟨rfl,hb⟩
  have HB2:=Lib.hid (HB.out.trans (hb.mono HB.out.size))
  have HRA2:=Lib.hid (HRA.out.kept hb HRA.out.1)
  have HL2:=Lib.hid (HL.out.keep (KeepS.of_below (S:=LtB B) hb))
  have hB2:B≤W2.heap.size:=Nat.le_trans hB HB2.out.size
  clear hb y1 y2 c0 c1 c2 c3 c4 c5 c6 HB HRA HL HFits
  obtain ⟨y1,y2,c0,c1,c2,c3,c4,c5,c6⟩:=HRA2.out
  cases hfi:fits x.kind x.v x.n
  ·obtain rfl:R=false:=by rw [HG.out,hfi]; rfl
   clear HG hfi
   go_wp2; go_ret
   exact ⟨rfl,HB2.out⟩
  replace HG:Hid (R=goodL x.kind r.subs d):=by unfold Hid; rw [HG.out,hfi,Bool.true_and]
  clear hfi
  go_wp2
  go_loopw [4,6,17] (fun rv _ iv W'=>rv=.bool false∧∃ k:Nat,k≤x.n∧iv=.int .i64 k∧Hid (Below W2.heap.size W2 W')∧Hid (∀ j,j<k→goodR (r.subs.getD j noRng) (d+opens x.kind (r.subs.getD j noRng).kind)=true)) (fun _ _ iv _=>x.n - (intOf iv).toNat)
  case atStart=>exact ⟨rfl,0,Nat.zero_le _,rfl,Below.refl _ _,fun j hj=>absurd hj (Nat.not_lt_zero j)⟩
  case round =>
   obtain ⟨rfl,k,hk,rfl,HB3,HQ⟩:=hrel
   by_cases hlt:k<x.n
   ·obtain ⟨b,o,c,hLe,hSb,hcl,hcy⟩:=HL2.out.says.subs.one hlt
    have hll:k<r.subs.length:=by rw [HLN.out]; exact hlt
    have hmem:r.subs.getD k noRng ∈ r.subs:=by
     rw [List.getD_eq_getElem?_getD,List.getElem?_eq_getElem (by omega)]; exact List.getElem_mem _
    have hwt:wt (r.subs.getD k noRng)≤m:=by have:=wt_mem hmem; omega
    have ho2:=opens_two x.kind c.kind
    have hoi:IntKind.i64.wrap ((d:Int)+(opens x.kind c.kind:Int))=((d+opens x.kind c.kind:Nat):Int):=by rw [IntKind.wrap_i64] <;> omega
    have hqe:goodR (r.subs.getD k noRng) (d+opens x.kind c.kind)=goodR (r.subs.getD k noRng) (d+opens x.kind (r.subs.getD k noRng).kind):=by rw [hcy.says.kind]
    have hlo:=HLO.out.sub hmem
    obtain ⟨q,hq⟩:∃ q,q=r.subs.getD k noRng:=⟨_,rfl⟩
    rw [← hq] at hcy hwt hlo
    have hqe:goodR q (d+opens x.kind c.kind)=goodR (r.subs.getD k noRng) (d+opens x.kind (r.subs.getD k noRng).kind):=by rw [hq]; exact hqe
    clear hq
    have hcw:=(hcl.keep (KeepS.of_below (S:=LtB B) HB3.out) hSb).cells
    obtain ⟨e0,e1,e2,e3,e4,e5,e6⟩:=hcw
    have HBA:Hid (Below W2.heap.size W2 ((wr.alloc c).drew)):=(HB3.out.alloc HB3.out.size _).drew
    have HXd:Hid (RAt ((wr.alloc c).drew) w.heap.size x):=HRA2.out.kept HBA.out HRA2.out.1
    have HCd:Hid (RAt ((wr.alloc c).drew) wr.heap.size c):=by have h:=RAt.new wr 28 c; exact h
    have HLc:Hid (Lies ((wr.alloc c).drew) (LtB B) q c):=hcy.keep (KeepS.of_below (S:=LtB B) HBA.out)
    have hBA:B≤((wr.alloc c).drew).heap.size:=Nat.le_trans hB2 HBA.out.size
    have HQE:=Lib.hid hqe
    rw [hLe]
    clear hcl hcy hmem hqe
    go_upto_region 6 with (fail)
    clear e0 e1 e2 e3 e4 e5 e6 c0 c1 c2 c3 c4 c5 c6
    have hqe:=HQE.out
    refine wp_region_held_drew (S:=fun w'=>RAt w' w.heap.size x∧RAt w' wr.heap.size c) (by kernel_rfl) ⟨HXd.out,HCd.out⟩ (fun hHeld=>?_)
    refine tk 0 rfl c ?_ fun w' hS'=>by obtain ⟨y1,y2,c0,c1,c2,c3,c4,c5,c6⟩:=hS'.2; go_simp
    refine tk 1 rfl (.int .i64 d) ?_
    refine tk 2 rfl (.pointer (some ⟨w.heap.size,0,none⟩)) ?_
    refine tk 3 rfl x.kind ?_ fun w' hS'=>by obtain ⟨y1,y2,c0,c1,c2,c3,c4,c5,c6⟩:=hS'.1; go_simp
    refine tk 4 rfl (.pointer (some ⟨wr.heap.size,0,none⟩)) ?_
    refine tk 5 rfl c.kind ?_ fun w' hS'=>by obtain ⟨y1,y2,c0,c1,c2,c3,c4,c5,c6⟩:=hS'.2; go_simp
    refine cl 6 rfl fun K hK=>?_
    go_simp
    refine (opens_any x.kind c.kind _).mono ?_
    rintro e wg1 ⟨rfl,rfl⟩
    have hb:=True.intro
    clear hb hHeld
    refine hK.out _ _ ⟨HXd.out,HCd.out⟩ (fun hHeld=>?_)
    clear hK K
    try simp only [Act.put,p1,p2,p3]
    refine tk 7 rfl (.int .i64 ((d+opens x.kind c.kind:Nat):Int)) ?_
    refine cl 8 rfl fun K hK=>?_
    go_simp
    refine (IH.out q c (d+opens x.kind c.kind) _ hwt hlo HLc.out hBA (by omega)).mono ?_
    rintro e wg2 ⟨rfl,hb⟩
    have hbk:=hb
    have HB5:=Lib.hid (HBA.out.trans (hb.mono HBA.out.size))
    clear hb hHeld
    refine hK.out _ _ ⟨HXd.out.kept hbk HXd.out.1,HCd.out.kept hbk HCd.out.1⟩ (fun hHeld=>?_)
    clear hK K
    try simp only [Act.put,p1,p2,p3]
    refine tk 9 rfl (.bool (!goodR q (d+opens x.kind c.kind))) ?_
    refine wpAnyH_done (by kernel_rfl) ?_ _
    cases hqb:goodR q (d+opens x.kind c.kind)
    ·obtain rfl:R=false:=HG.out.trans (goodL_no (by omega) (hqe.symm.trans hqb))
     clear HQ HG
     go_wp2
     go_ret
     exact ⟨rfl,HB2.out.trans (HB5.out.mono HB2.out.size)⟩
    ·go_wp2
     exact ⟨⟨rfl,k+1,by omega,by go_num,HB5.out,fun j hj=>by
      by_cases hjk:j=k
      ·subst hjk; exact hqe.symm.trans hqb
      ·exact HQ.out j (by omega)⟩,by simp [intOf]; omega⟩

   ·obtain rfl:k=x.n:=by omega
    clear c0 c1 c2 c3 c4 c5 c6
    have HA:=Lib.hid (goodL_at.2 fun j hj=>HQ.out j (by rw [← HLN.out]; exact hj))
    obtain rfl:R=true:=HG.out.trans HA.out
    clear HG
    go_wp2
    go_ret
    exact ⟨rfl,HB2.out.trans (HB3.out.mono HB2.out.size)⟩
theorem goodIs_any (r:Rng) (x:RV) (B:Nat) (w:World) (hm:LenOk r) (hx:Lies w (LtB B) r x) (hB:B≤w.heap.size) :
  Calls Tryz.prog 21 #[x.agg] w fun e w'=>e=.returned (.bool (goodR r 0))∧Below w.heap.size w w':=by
 have HB:Hid (Below w.heap.size w (w.alloc x)):=(Below.refl _ _).alloc (Nat.le_refl _) _
 have HRA:Hid (RAt (w.alloc x) w.heap.size x):=RAt.new w _ x
 have HL:=Lib.hid (hx.keep (KeepS.of_below (S:=LtB B) HB.out))
 have HG:=Lib.hid (fun W h1 h2=>good_full (wt r) r x B 0 W (Nat.le_refl _) hm h1 h2 (by omega))
 have hB2:B≤(w.alloc x).heap.size:=Nat.le_trans hB HB.out.size
 clear hx
 unfold RV.agg
 go_enter Tryz.func21,Tryz.ntmps21
 go_upto_region 1 with (fail)
 generalize w.alloc x=W at HB HRA HL hB2 ⊢
 obtain ⟨y1,y2,c0,c1,c2,c3,c4,c5,c6⟩:=HRA.out
 go_wp2_with fail
 refine (HG.out W HL.out hB2).mono ?_
 rintro e W2 ⟨rfl,hb⟩
 have HB2:=Lib.hid (HB.out.trans (hb.mono HB.out.size))
 clear hb
 go_wp2
 go_ret
 exact ⟨rfl,HB2.out⟩
end Go.Proofs.YtgfbflnhjpbceaaGreatDoor.Range
