/-
  What the theorem of the last text needs of these: SpBuildMath, RgIn, NmLenMath. Conditions: as each theorem states.
-/
import Derived.Test.YtgfbflnhjpbceaaGreatDoorSetB1
import Derived.Test.YtgfbflnhjpbceaaGreatDoorSetB19
import Derived.Test.YtgfbflnhjpbceaaGreatDoorSetB20
set_option maxRecDepth 100000
set_option maxHeartbeats 25600000
namespace Go.Proofs.YtgfbflnhjpbceaaGreatDoor.Span
open Go.RowKit Num Ident Semver Prec

def cutAt (L:List Cut) (i:Nat):Cut:=L.getD i default
theorem cutAt_lt {L:List Cut} {i:Nat} (h:i<L.length):cutAt L i=L[i]:=by simp [cutAt,List.getD,List.getElem?_eq_getElem h]
theorem cutAt_mem {L:List Cut} {i:Nat} (h:i<L.length):cutAt L i ∈ L:=by rw [cutAt_lt h]; exact List.getElem_mem h
structure Rise (L:List Cut):Prop where
 right:∀ x ∈ L,right x=true
 rise:L.Pairwise fun x y=>stand x y<0
 low:low ∈ L
 high:high ∈ L
theorem Rise.start:Rise [Span.low,Span.high]:=by
 refine ⟨fun x hx=>?_,List.pairwise_cons.2 ⟨fun y hy=>?_,List.pairwise_singleton _ _⟩,by simp,by simp⟩
 ·simp only [List.mem_cons,List.mem_nil_iff,or_false] at hx
  rcases hx with rfl | rfl
  ·exact low_right
  ·exact high_right
 ·rw [List.mem_singleton] at hy; subst hy; exact low_high
theorem Rise.lt {L:List Cut} (h:Rise L) {i j:Nat} (hij:i<j) (hj:j<L.length):stand (cutAt L i) (cutAt L j)<0:=by
 rw [cutAt_lt (Nat.lt_trans hij hj),cutAt_lt hj]
 exact List.pairwise_iff_getElem.1 h.rise i j (Nat.lt_trans hij hj) hj hij
theorem Rise.le {L:List Cut} (h:Rise L) {i j:Nat} (hij:i≤j) (hj:j<L.length):stand (cutAt L i) (cutAt L j)≤0:=by
 rcases Nat.lt_or_eq_of_le hij with g | g
 ·have:=h.lt g hj; omega
 ·subst g; rw [stand_self]; exact Int.le_refl 0
theorem Rise.ins {L:List Cut} (h:Rise L) {c:Cut} (hc:Span.right c=true) {k:Nat} (h1:∀ j,j<k→stand (cutAt L j) c<0) (hk:k≤L.length) (h2:k=L.length∨0<stand (cutAt L k) c):Rise (L.take k ++ c :: L.drop k):=by
 have hp:(L.take k ++ L.drop k).Pairwise fun x y=>stand x y<0:=by rw [List.take_append_drop]; exact h.rise
 obtain ⟨p1,p2,p3⟩:=List.pairwise_append.1 hp
 have hd:∀ y ∈ L.drop k,stand c y<0:=by
  intro y hy
  obtain ⟨i,hi,rfl⟩:=List.getElem_of_mem hy
  rw [List.length_drop] at hi
  rw [List.getElem_drop]
  rcases h2 with h2 | h2
  ·omega
  ·have e:L[k+i]=cutAt L (k+i):=(cutAt_lt (by omega)).symm
   rw [e]
   have f:=stand_flip (cutAt L k) c
   exact lt_le (by omega) (h.le (Nat.le_add_right k i) (by omega))
 have ht:∀ x ∈ L.take k,stand x c<0:=by
  intro x hx
  obtain ⟨i,hi,rfl⟩:=List.getElem_of_mem hx
  rw [List.length_take] at hi
  rw [List.getElem_take]
  have e:L[i]=cutAt L i:=(cutAt_lt (by omega)).symm
  rw [e]; exact h1 i (by omega)
 refine ⟨fun x hx=>?_,List.pairwise_append.2 ⟨p1,List.pairwise_cons.2 ⟨hd,p2⟩,fun x hx y hy=>?_⟩,?_,?_⟩
 ·rcases List.mem_append.1 hx with hx | hx
  ·exact h.right x (List.mem_of_mem_take hx)
  ·rcases List.mem_cons.1 hx with rfl | hx
   ·exact hc
   ·exact h.right x (List.mem_of_mem_drop hx)
 ·rcases List.mem_cons.1 hy with rfl | hy
  ·exact ht x hx
  ·exact p3 x hx y hy
 ·have:=h.low
  rw [← List.take_append_drop k L,List.mem_append] at this
  rw [List.mem_append]; exact this.imp id (List.mem_cons_of_mem _)
 ·have:=h.high
  rw [← List.take_append_drop k L,List.mem_append] at this
  rw [List.mem_append]; exact this.imp id (List.mem_cons_of_mem _)
def Hits (L:List Cut) (c:Cut):Prop:=∃ i,i<L.length∧stand (cutAt L i) c=0
theorem hits_of {L:List Cut} {c x:Cut} (hx:x ∈ L) (h:stand x c=0):Hits L c:=by
 obtain ⟨i,hi,rfl⟩:=List.getElem_of_mem hx
 exact ⟨i,hi,by rw [cutAt_lt hi]; exact h⟩
theorem Hits.more {L M:List Cut} {c:Cut} (h:Hits L c) (hm:∀ x ∈ L,x ∈ M):Hits M c:=by
 obtain ⟨i,hi,e⟩:=h
 exact hits_of (hm _ (cutAt_mem hi)) e
theorem ins_mem {L:List Cut} {c:Cut} {k:Nat}:∀ x ∈ L,x ∈ L.take k ++ c :: L.drop k:=by
 intro x hx
 rw [← List.take_append_drop k L,List.mem_append] at hx
 rw [List.mem_append]; exact hx.imp id (List.mem_cons_of_mem _)
theorem ins_hits {L:List Cut} {c:Cut} {k:Nat}:Hits (L.take k ++ c :: L.drop k) c:=hits_of (x:=c) (by simp) (stand_self c)
def HitsAll (L:List Cut) (l:List Sp):Prop:=∀ s ∈ l,(right s.lo=true→Hits L s.lo)∧(right s.hi=true→Hits L s.hi)
theorem between:∀ (L:List Cut) (c:Cut),(L.Pairwise fun x y=>stand x y<0)→(∃ x ∈ L,stand x c≤0)→(∃ y ∈ L,stand c y<0)→∃ j,j+1<L.length∧stand (cutAt L j) c≤0∧stand c (cutAt L (j+1))<0
 | [],_,_,⟨x,hx,_⟩,_=>by cases hx
 | [a],c,_,⟨x,hx,h1⟩,⟨y,hy,h2⟩=>by
  rw [List.mem_singleton] at hx hy; subst hx; subst hy
  exact absurd h2 (le_not h1)
 | a :: b :: r,c,hp,⟨x,hx,h1⟩,⟨y,hy,h2⟩=>by
  obtain ⟨p1,p2⟩:=List.pairwise_cons.1 hp
  by_cases g:stand b c≤0
  ·have hy':y ∈ b :: r:=by
    rcases List.mem_cons.1 hy with rfl | hy
    ·exact absurd (lt_lt (p1 b (List.mem_cons_self ..)) (le_lt g h2)) (by rw [stand_self]; omega)
    ·exact hy
   obtain ⟨j,hj,k1,k2⟩:=between (b :: r) c p2 ⟨b,List.mem_cons_self ..,g⟩ ⟨y,hy',h2⟩
   exact ⟨j+1,by simp at hj ⊢; omega,k1,k2⟩
  ·refine ⟨0,by simp,?_,not_le g⟩
   rcases List.mem_cons.1 hx with rfl | hx
   ·exact h1
   ·exfalso
    rcases List.mem_cons.1 hx with rfl | hx
    ·exact g h1
    ·have:=lt_le ((List.pairwise_cons.1 p2).1 x hx) h1
     omega
theorem Rise.between {L:List Cut} (h:Rise L) {c:Cut} (hc:inOne ⟨Span.low,Span.high⟩ c):∃ j,j+1<L.length∧stand (cutAt L j) c≤0∧stand c (cutAt L (j+1))<0 :=
 Span.between L c h.rise ⟨_,h.low,hc.1⟩ ⟨_,h.high,hc.2⟩
def coverOne (lo hi:Cut) (s:Sp):Bool:=right s.lo && right s.hi && decide (cmpC s.lo lo≤0) && decide (0≤cmpC s.hi hi)
def coversB (l:List Sp) (lo hi:Cut):Bool:=l.any (coverOne lo hi)
theorem coverOne_iff {lo hi:Cut} (h1:right lo=true) (h2:right hi=true) (s:Sp):coverOne lo hi s=true↔right s.lo=true∧right s.hi=true∧stand s.lo lo≤0∧stand hi s.hi≤0:=by
 unfold coverOne
 rw [Bool.and_eq_true,Bool.and_eq_true,Bool.and_eq_true,decide_eq_true_eq,decide_eq_true_eq]
 constructor
 ·rintro ⟨⟨⟨a,b⟩,c⟩,d⟩
  rw [cmpC_right a h1] at c
  rw [cmpC_right b h2] at d
  have:=stand_flip s.hi hi
  exact ⟨a,b,c,by omega⟩
 ·rintro ⟨a,b,c,d⟩
  rw [cmpC_right a h1,cmpC_right b h2]
  have:=stand_flip s.hi hi
  exact ⟨⟨⟨a,b⟩,c⟩,by omega⟩
theorem covers_iff {L:List Cut} {a:List Sp} (h:Rise L) (ha:HitsAll L a) {j:Nat} (hj:j+1<L.length) {c:Cut} (h1:stand (cutAt L j) c≤0) (h2:stand c (cutAt L (j+1))<0):coversB a (cutAt L j) (cutAt L (j+1))=true↔inR a c:=by
 have r1:=h.right _ (cutAt_mem (show j<L.length by omega))
 have r2:=h.right _ (cutAt_mem hj)
 unfold coversB
 rw [List.any_eq_true]
 constructor
 ·rintro ⟨s,hs,k⟩
  obtain ⟨a1,a2,a3,a4⟩:=(coverOne_iff r1 r2 s).1 k
  have i:inOne s c:=⟨le_le a3 h1,lt_le h2 a4⟩
  exact ⟨s,hs,(cnt_iff s).2 ⟨a1,a2,le_lt i.1 i.2⟩,i⟩
 ·rintro ⟨s,hs,k,i1,i2⟩
  obtain ⟨a1,a2,_⟩:=(cnt_iff s).1 k
  refine ⟨s,hs,(coverOne_iff r1 r2 s).2 ⟨a1,a2,?_,?_⟩⟩
  ·obtain ⟨p,hp,e⟩:=(ha s hs).1 a1
   have e':=like_flip e
   rcases Nat.lt_or_ge j p with g | g
   ·exfalso
    have:=h.le (show j+1≤p by omega) hp
    exact lt_not h2 (le_le (le_le this (by omega)) i1)
   ·exact le_le (by omega) (h.le g (by omega))
  ·obtain ⟨p,hp,e⟩:=(ha s hs).2 a2
   have e':=like_flip e
   rcases Nat.lt_or_ge j p with g | g
   ·exact le_le (h.le (show j+1≤p by omega) hp) (by omega)
   ·exfalso
    have h3:=h.le g (show j<L.length by omega)
    exact lt_not i2 (le_le (le_le (show stand s.hi (cutAt L p)≤0 by omega) h3) h1)
structure BInv (L:List Cut) (F:Nat→Bool) (i:Nat) (op:Bool) (acc:List Sp):Prop where
 norm:Norm acc
 cover:∀ c,inS acc c↔∃ j,j<i∧F j=true∧stand (cutAt L j) c≤0∧stand c (cutAt L (j+1))<0
 opened:op=true→∃ pre s,acc=pre ++ [s]∧s.hi=cutAt L i
 shut:op=false→∀ s ∈ acc,stand s.hi (cutAt L i)<0
 len:acc.length≤i
theorem BInv.start (L:List Cut) (F:Nat→Bool):BInv L F 0 false [] :=
 ⟨Norm.nil,fun c=>⟨fun h=>absurd h (inS_nil c),fun ⟨j,hj,_⟩=>by omega⟩,(fun h=>by cases h),(fun _ s hs=>by cases hs),Nat.le_refl _⟩
theorem Norm.snoc {l:List Sp} {s:Sp} (h:Norm l) (hs:Span.cnt s=true) (hg:∀ t ∈ l,stand t.hi s.lo<0):Norm (l ++ [s]):=by
 refine ⟨fun t ht=>?_,List.pairwise_append.2 ⟨h.gap,List.pairwise_singleton _ _,fun t ht u hu=>?_⟩⟩
 ·rcases List.mem_append.1 ht with ht | ht
  ·exact h.cnt t ht
  ·rw [List.mem_singleton] at ht; subst ht; exact hs
 ·rw [List.mem_singleton] at hu; subst hu; exact hg t ht
theorem Norm.unsnoc {l:List Sp} {s:Sp} (h:Norm (l ++ [s])):Norm l∧Span.cnt s=true∧∀ t ∈ l,stand t.hi s.lo<0:=by
 obtain ⟨p1,_,p3⟩:=List.pairwise_append.1 h.gap
 exact ⟨⟨fun t ht=>h.cnt t (List.mem_append_left _ ht),p1⟩,h.cnt s (by simp),fun t ht=>p3 t ht s (by simp)⟩
theorem inS_snoc (l:List Sp) (s:Sp) (c:Cut):inS (l ++ [s]) c↔inS l c∨inOne s c:=by
 constructor
 ·rintro ⟨t,ht,h⟩
  rcases List.mem_append.1 ht with ht | ht
  ·exact .inl ⟨t,ht,h⟩
  ·rw [List.mem_singleton] at ht; subst ht; exact .inr h
 ·rintro (⟨t,ht,h⟩ | h)
  ·exact ⟨t,List.mem_append_left _ ht,h⟩
  ·exact ⟨s,by simp,h⟩
theorem BInv.le {L:List Cut} {F:Nat→Bool} {i:Nat} {op:Bool} {acc:List Sp} (h:BInv L F i op acc):∀ s ∈ acc,stand s.hi (cutAt L i)≤0:=by
 intro s hs
 cases op with
 | false=>have:=h.shut rfl s hs; omega
 | true =>
  obtain ⟨pre,t,rfl,e⟩:=h.opened rfl
  obtain ⟨_,g2,g3⟩:=h.norm.unsnoc
  rcases List.mem_append.1 hs with hs | hs
  ·have:=lt_lt (g3 s hs) ((cnt_iff t).1 g2).2.2
   rw [e] at this; omega
  ·rw [List.mem_singleton] at hs; subst hs; rw [e,stand_self]; exact Int.le_refl 0
theorem cover_no {L:List Cut} {F:Nat→Bool} {i:Nat} (hF:F i=false) (c:Cut):(∃ j,j<i+1∧F j=true∧stand (cutAt L j) c≤0∧stand c (cutAt L (j+1))<0)↔∃ j,j<i∧F j=true∧stand (cutAt L j) c≤0∧stand c (cutAt L (j+1))<0:=by
 constructor
 ·rintro ⟨j,hj,h1,h2⟩
  refine ⟨j,?_,h1,h2⟩
  rcases Nat.lt_or_eq_of_le (Nat.le_of_lt_succ hj) with g | g
  ·exact g
  ·rw [g,hF] at h1; cases h1
 ·rintro ⟨j,hj,h⟩; exact ⟨j,by omega,h⟩
theorem cover_yes {L:List Cut} {F:Nat→Bool} {i:Nat} (hF:F i=true) (c:Cut):(∃ j,j<i+1∧F j=true∧stand (cutAt L j) c≤0∧stand c (cutAt L (j+1))<0)↔(∃ j,j<i∧F j=true∧stand (cutAt L j) c≤0∧stand c (cutAt L (j+1))<0)∨(stand (cutAt L i) c≤0∧stand c (cutAt L (i+1))<0):=by
 constructor
 ·rintro ⟨j,hj,h1,h2⟩
  rcases Nat.lt_or_eq_of_le (Nat.le_of_lt_succ hj) with g | g
  ·exact .inl ⟨j,g,h1,h2⟩
  ·subst g; exact .inr h2
 ·rintro (⟨j,hj,h⟩ | h)
  ·exact ⟨j,by omega,h⟩
  ·exact ⟨i,by omega,hF,h⟩
theorem BInv.no {L:List Cut} {F:Nat→Bool} {i:Nat} {op:Bool} {acc:List Sp} (h:BInv L F i op acc) (hL:Rise L) (hi:i+1<L.length) (hF:F i=false):BInv L F (i+1) false acc :=
 ⟨h.norm,fun c=>(h.cover c).trans (cover_no hF c).symm,(fun k=>by cases k),fun _ s hs=>le_lt (h.le s hs) (hL.lt (Nat.lt_succ_self i) hi),Nat.le_succ_of_le h.len⟩
theorem BInv.new {L:List Cut} {F:Nat→Bool} {i:Nat} {acc:List Sp} (h:BInv L F i false acc) (hL:Rise L) (hi:i+1<L.length) (hF:F i=true):BInv L F (i+1) true (acc ++ [⟨cutAt L i,cutAt L (i+1)⟩]):=by
 refine ⟨h.norm.snoc ((cnt_iff _).2 ⟨hL.right _ (cutAt_mem (by omega)),hL.right _ (cutAt_mem hi),hL.lt (Nat.lt_succ_self i) hi⟩) (h.shut rfl),fun c=>?_,fun _=>⟨acc,_,rfl,rfl⟩,(fun k=>by cases k),by rw [List.length_append]; have:=h.len; simp; omega⟩
 rw [inS_snoc,cover_yes hF c,h.cover c]; rfl
theorem BInv.on {L:List Cut} {F:Nat→Bool} {i:Nat} {pre:List Sp} {s:Sp} (h:BInv L F i true (pre ++ [s])) (hs:s.hi=cutAt L i) (hL:Rise L) (hi:i+1<L.length) (hF:F i=true):BInv L F (i+1) true (pre ++ [⟨s.lo,cutAt L (i+1)⟩]):=by
 obtain ⟨g1,g2,g3⟩:=h.norm.unsnoc
 obtain ⟨k1,k2,k3⟩:=(cnt_iff s).1 g2
 have hlt:=hL.lt (Nat.lt_succ_self i) hi
 rw [hs] at k3
 refine ⟨g1.snoc ((cnt_iff _).2 ⟨k1,hL.right _ (cutAt_mem hi),lt_lt k3 hlt⟩) g3,fun c=>?_,fun _=>⟨pre,_,rfl,rfl⟩,(fun k=>by cases k),by have:=h.len; rw [List.length_append] at this ⊢; simp at this ⊢; omega⟩
 have hc:=h.cover c
 rw [inS_snoc] at hc
 rw [inS_snoc,cover_yes hF c,← hc,or_assoc]
 refine or_congr Iff.rfl ?_
 show stand s.lo c≤0∧stand c (cutAt L (i+1))<0↔(stand s.lo c≤0∧stand c s.hi<0)∨_
 rw [hs]
 constructor
 ·rintro ⟨a,b⟩
  by_cases g:stand (cutAt L i) c≤0
  ·exact .inr ⟨g,b⟩
  ·exact .inl ⟨a,not_le g⟩
 ·rintro (⟨a,b⟩ | ⟨a,b⟩)
  ·exact ⟨a,lt_lt b hlt⟩
  ·exact ⟨le_le (by omega) a,b⟩
theorem BInv.done {L:List Cut} {F:Nat→Bool} {i:Nat} {op:Bool} {acc:List Sp} (h:BInv L F i op acc) (hi:¬ i+1<L.length) (c:Cut) (hle:i<L.length):inS acc c↔∃ j,j+1<L.length∧F j=true∧stand (cutAt L j) c≤0∧stand c (cutAt L (j+1))<0:=by
 rw [h.cover c]
 constructor
 ·rintro ⟨j,hj,k⟩; exact ⟨j,by omega,k⟩
 ·rintro ⟨j,hj,k⟩; exact ⟨j,by omega,k⟩
theorem Rise.within {L:List Cut} (h:Rise L) {j:Nat} (hj:j+1<L.length) {c:Cut} (h1:stand (cutAt L j) c≤0) (h2:stand c (cutAt L (j+1))<0):inOne ⟨Span.low,Span.high⟩ c :=
 ⟨le_le (low_le (h.right _ (cutAt_mem (by omega)))) h1,lt_le h2 (le_high (h.right _ (cutAt_mem hj)))⟩
theorem inR_all {l:List Sp} {c:Cut} (h:inR l c):inOne ⟨low,high⟩ c:=by
 obtain ⟨s,_,k,i1,i2⟩:=h
 obtain ⟨a1,a2,_⟩:=(cnt_iff s).1 k
 exact ⟨le_le (low_le a1) i1,lt_le i2 (le_high a2)⟩
def howB (how:Int) (x y:Bool):Bool:=if how=2 then !x else if how=1 then x && y else x || y
def pieceB (a b:List Sp) (how:Int) (L:List Cut) (j:Nat):Bool:=howB how (coversB a (cutAt L j) (cutAt L (j+1))) (coversB b (cutAt L j) (cutAt L (j+1)))
theorem built {L:List Cut} {a b o:List Sp} {how:Int} {i:Nat} {op:Bool} (hL:Rise L) (h:BInv L (pieceB a b how L) i op o) (hi:¬ i+1<L.length) (hle:i<L.length) (ha:HitsAll L a) (hb:HitsAll L b) (c:Cut) :
  inS o c↔inOne ⟨low,high⟩ c∧(if how=2 then ¬ inR a c else if how=1 then inR a c∧inR b c else inR a c∨inR b c):=by
 rw [h.done hi c hle]
 have key:∀ j,j+1<L.length→stand (cutAt L j) c≤0→stand c (cutAt L (j+1))<0→(pieceB a b how L j=true↔if how=2 then ¬ inR a c else if how=1 then inR a c∧inR b c else inR a c∨inR b c):=by
  intro j hj h1 h2
  have x:=covers_iff hL ha hj h1 h2
  have y:=covers_iff hL hb hj h1 h2
  unfold pieceB howB
  by_cases g2:how=2
  ·rw [if_pos g2,if_pos g2,Bool.not_eq_true',← Bool.not_eq_true,x]
  ·rw [if_neg g2,if_neg g2]
   by_cases g1:how=1
   ·rw [if_pos g1,if_pos g1,Bool.and_eq_true,x,y]
   ·rw [if_neg g1,if_neg g1,Bool.or_eq_true,x,y]
 constructor
 ·rintro ⟨j,hj,k,h1,h2⟩
  exact ⟨hL.within hj h1 h2,(key j hj h1 h2).1 k⟩
 ·rintro ⟨k,hq⟩
  obtain ⟨j,hj,h1,h2⟩:=hL.between k
  exact ⟨j,hj,(key j hj h1 h2).2 hq,h1,h2⟩
def BuiltOf (a b:List Sp) (how:Int) (o:List Sp):Prop:=Norm o∧∀ c,inS o c↔inOne ⟨low,high⟩ c∧(if how=2 then ¬ inR a c else if how=1 then inR a c∧inR b c else inR a c∨inR b c)
end Go.Proofs.YtgfbflnhjpbceaaGreatDoor.Span
namespace Go.Proofs.YtgfbflnhjpbceaaGreatDoor.Range
open Go.RowKit Num Ident Semver

def insideF (deep:Int) (m:Nat) (pf:List UInt8→Out) (s:List UInt8):Out:=if deep=64 then (8,s,noRng) else pf (blanks (s.drop m))
theorem insideE (b:Nat) (A:Option Addr) (n c:Nat) (l:List UInt8) (p:Nat) (s mark:List UInt8) (deep:Int) (pf:List UInt8→Out) (w:World) (hR:Rd w b A n c p) (hr:Row w A n l) (hs:Pl l p s) (ht:OpsTab w) (hd:0≤deep∧deep≤64) (hst:stands mark s=true) (hp:deep≠64→PartOK 88 b A n c l (deep+1) pf) :
  Calls Tryz.prog 169 #[.pointer (some ⟨b,0,none⟩),.string (mk mark),.int .i64 deep,.func (.func 88) #[.pointer (some ⟨b,0,none⟩)] #[]] w (RgPost b A n c l w (insideF deep mark.length pf s)):=by
 have hpm:p+mark.length≤n:=by
  have h1:=stands_len hst
  rw [hs.len,hr.1] at h1
  have h2:=hs.le
  rw [hr.1] at h2
  omega
 have hbw:=hR.lt
 have HP:=Lib.hid hs
 have HL:=Lib.hid hr.1
 have HR:=Lib.hid hR
 have HRow:=Lib.hid hr
 have HT:=Lib.hid ht
 have H7:Hid (RAt (w.alloc ()) w.heap.size (zeroRV 0)):=RAt.new w 28 (zeroRV 0)
 have HM:Hid (Moved b w (w.alloc ())):=(Moved.refl b w).alloc hbw _
 have HR0:Hid (Rd (w.alloc ()) b A n c p):=hR.alloc _
 have HRow0:Hid (Row (w.alloc ()) A n l):=hr.kept ((Below.refl _ _).alloc (Nat.le_refl _) _)
 have HT0:Hid (OpsTab (w.alloc ())):=ht.keep (Keep.of_below ((Below.refl _ _).alloc (Nat.le_refl _) _))
 have hne:w.heap.size≠b:=by omega
 have hmf:∀ (fn:Fn) (first cap:Array Value) (w:World),(Instr.makeFunc fn first cap).run Tryz.prog w=.ok (.func fn first cap) w:=fun _ _ _ _=>rfl
 clear hR hr hs ht
 by_cases h64:deep=64
 ·have HF:Hid (insideF deep mark.length pf s=(8,s,noRng)):=if_pos h64
  subst h64
  clear hp hst
  obtain ⟨y1,y2,c0,c1,c2,c3,c4,c5,c6⟩:=H7.out
  rw [HF.out]
  go_enter Tryz.func169,Tryz.ntmps169
  go_wp2
  exact bodyPost_ret (v:=.tuple #[.agg #[.int .i64 0,.int .u64 0,.int .u64 0,.int .u64 0,.slice none 0 0,.slice none 0 0,.slice none 0 0],.int .i64 8]) (by simp [results,Tryz.results169,go_sem]) rfl (⟨zeroRV 0,p,rfl,Lies.zero _ _ 0,HP.out,HR0.out,HM.out⟩)
 ·have HF:Hid (insideF deep mark.length pf s=pf (blanks (s.drop mark.length))):=if_neg h64
  have HPP:=Lib.hid (hp h64)
  have hb1:(deep == 64)=false:=by simp [h64]
  have hd1:=hd.1
  have hd2:=hd.2
  obtain ⟨s2,hs2⟩:∃ s2,blanks (s.drop mark.length)=s2:=⟨_,rfl⟩
  obtain ⟨t,ht⟩:∃ t,pf s2=t:=⟨_,rfl⟩
  rw [HF.out,hs2,ht]
  have HS2:=Lib.hid hs2
  have HTT:=Lib.hid ht
  clear hp hst h64 hd hs2 ht
  go_enter Tryz.func169,Tryz.ntmps169
  go_wp2_with fail
  have hsz:((mk mark).size:Int)=(mark.length:Int):=rfl
  first
   | refine (pass_any b A n c p mark.length l s _ HR0.out HRow0.out HP.out hpm).mono ?_
   | (rw [hsz]; refine (pass_any b A n c p mark.length l s _ HR0.out HRow0.out HP.out hpm).mono ?_)
  rintro e W2 ⟨rfl,q2,hq2,hR2,hM2⟩
  rw [HS2.out] at hq2
  have HR2:=Lib.hid hR2
  have HP2:=Lib.hid hq2
  have H72:=Lib.hid (H7.out.moved hM2 hne)
  have HK2:=Lib.hid (HR0.out.keep hM2)
  have HRow2:=Lib.hid (row_keep HRow0.out HK2.out)
  have HT2:=Lib.hid (HT0.out.keep HK2.out)
  have HM2:=Lib.hid (HM.out.trans hM2)
  have hz2:w.heap.size<W2.heap.size:=H72.out.1
  clear hR2 hq2 hM2 HK2 HR0 HM H7 HRow0 HT0 HF
  go_wp2_with fail
  refine (HPP.out W2 q2 s2 HR2.out HRow2.out HT2.out HP2.out).mono ?_
  rw [HTT.out]
  rintro e W3 ⟨x,q3,rfl,hx,hP3,hR3,hM3⟩
  unfold RV.agg
  have HX:Hid (Lies W3 (From (w.heap.size+1)) t.2.2 x):=hx.from_ hz2
  have HP3:=Lib.hid hP3
  have HR3:=Lib.hid hR3
  have HM3:=Lib.hid (HM2.out.trans hM3)
  have H73:=Lib.hid (H72.out.moved hM3 hne)
  clear hx hP3 hR3 hM3
  obtain ⟨y1,y2,c0,c1,c2,c3,c4,c5,c6⟩:=H73.out
  go_wp2
  exact bodyPost_ret (v:=.tuple #[.agg #[x.kind,x.v.a,x.v.b,x.v.c,.slice x.A x.v.pre.length x.c,.slice x.B x.v.build.length x.d,.slice x.L x.n x.e],.int .i64 t.1]) (by simp [results,Tryz.results169,go_sem,c0,c1,c2,c3,c4,c5,c6]) rfl (rg_end (x:=x) (f:=t.1) (s:=t.2.1) (r:=t.2.2) hbw HX.out HP3.out HR3.out HM3.out)
theorem insideO (b:Nat) (A:Option Addr) (n c:Nat) (l:List UInt8) (p:Nat) (s mark:List UInt8) (deep:Int) (pf:List UInt8→Out) (w:World) (hR:Rd w b A n c p) (hr:Row w A n l) (hs:Pl l p s) (ht:OpsTab w) (hd:0≤deep∧deep≤64) (hst:stands mark s=true) (hp:deep≠64→PartOK 142 b A n c l (deep+1) pf) :
  Calls Tryz.prog 169 #[.pointer (some ⟨b,0,none⟩),.string (mk mark),.int .i64 deep,.func (.func 142) #[.pointer (some ⟨b,0,none⟩)] #[]] w (RgPost b A n c l w (insideF deep mark.length pf s)):=by
 have hpm:p+mark.length≤n:=by
  have h1:=stands_len hst
  rw [hs.len,hr.1] at h1
  have h2:=hs.le
  rw [hr.1] at h2
  omega
 have hbw:=hR.lt
 have HP:=Lib.hid hs
 have HL:=Lib.hid hr.1
 have HR:=Lib.hid hR
 have HRow:=Lib.hid hr
 have HT:=Lib.hid ht
 have H7:Hid (RAt (w.alloc ()) w.heap.size (zeroRV 0)):=RAt.new w 28 (zeroRV 0)
 have HM:Hid (Moved b w (w.alloc ())):=(Moved.refl b w).alloc hbw _
 have HR0:Hid (Rd (w.alloc ()) b A n c p):=hR.alloc _
 have HRow0:Hid (Row (w.alloc ()) A n l):=hr.kept ((Below.refl _ _).alloc (Nat.le_refl _) _)
 have HT0:Hid (OpsTab (w.alloc ())):=ht.keep (Keep.of_below ((Below.refl _ _).alloc (Nat.le_refl _) _))
 have hne:w.heap.size≠b:=by omega
 have hmf:∀ (fn:Fn) (first cap:Array Value) (w:World),(Instr.makeFunc fn first cap).run Tryz.prog w=.ok (.func fn first cap) w:=fun _ _ _ _=>rfl
 clear hR hr hs ht
 by_cases h64:deep=64
 ·have HF:Hid (insideF deep mark.length pf s=(8,s,noRng)):=if_pos h64
  subst h64
  clear hp hst
  obtain ⟨y1,y2,c0,c1,c2,c3,c4,c5,c6⟩:=H7.out
  rw [HF.out]
  go_enter Tryz.func169,Tryz.ntmps169
  go_wp2
  exact bodyPost_ret (v:=.tuple #[.agg #[.int .i64 0,.int .u64 0,.int .u64 0,.int .u64 0,.slice none 0 0,.slice none 0 0,.slice none 0 0],.int .i64 8]) (by simp [results,Tryz.results169,go_sem]) rfl (⟨zeroRV 0,p,rfl,Lies.zero _ _ 0,HP.out,HR0.out,HM.out⟩)
 ·have HF:Hid (insideF deep mark.length pf s=pf (blanks (s.drop mark.length))):=if_neg h64
  have HPP:=Lib.hid (hp h64)
  have hb1:(deep == 64)=false:=by simp [h64]
  have hd1:=hd.1
  have hd2:=hd.2
  obtain ⟨s2,hs2⟩:∃ s2,blanks (s.drop mark.length)=s2:=⟨_,rfl⟩
  obtain ⟨t,ht⟩:∃ t,pf s2=t:=⟨_,rfl⟩
  rw [HF.out,hs2,ht]
  have HS2:=Lib.hid hs2
  have HTT:=Lib.hid ht
  clear hp hst h64 hd hs2 ht
  go_enter Tryz.func169,Tryz.ntmps169
  go_wp2_with fail
  have hsz:((mk mark).size:Int)=(mark.length:Int):=rfl
  first
   | refine (pass_any b A n c p mark.length l s _ HR0.out HRow0.out HP.out hpm).mono ?_
   | (rw [hsz]; refine (pass_any b A n c p mark.length l s _ HR0.out HRow0.out HP.out hpm).mono ?_)
  rintro e W2 ⟨rfl,q2,hq2,hR2,hM2⟩
  rw [HS2.out] at hq2
  have HR2:=Lib.hid hR2
  have HP2:=Lib.hid hq2
  have H72:=Lib.hid (H7.out.moved hM2 hne)
  have HK2:=Lib.hid (HR0.out.keep hM2)
  have HRow2:=Lib.hid (row_keep HRow0.out HK2.out)
  have HT2:=Lib.hid (HT0.out.keep HK2.out)
  have HM2:=Lib.hid (HM.out.trans hM2)
  have hz2:w.heap.size<W2.heap.size:=H72.out.1
  clear hR2 hq2 hM2 HK2 HR0 HM H7 HRow0 HT0 HF
  go_wp2_with fail
  refine (HPP.out W2 q2 s2 HR2.out HRow2.out HT2.out HP2.out).mono ?_
  rw [HTT.out]
  rintro e W3 ⟨x,q3,rfl,hx,hP3,hR3,hM3⟩
  unfold RV.agg
  have HX:Hid (Lies W3 (From (w.heap.size+1)) t.2.2 x):=hx.from_ hz2
  have HP3:=Lib.hid hP3
  have HR3:=Lib.hid hR3
  have HM3:=Lib.hid (HM2.out.trans hM3)
  have H73:=Lib.hid (H72.out.moved hM3 hne)
  clear hx hP3 hR3 hM3
  obtain ⟨y1,y2,c0,c1,c2,c3,c4,c5,c6⟩:=H73.out
  go_wp2
  exact bodyPost_ret (v:=.tuple #[.agg #[x.kind,x.v.a,x.v.b,x.v.c,.slice x.A x.v.pre.length x.c,.slice x.B x.v.build.length x.d,.slice x.L x.n x.e],.int .i64 t.1]) (by simp [results,Tryz.results169,go_sem,c0,c1,c2,c3,c4,c5,c6]) rfl (rg_end (x:=x) (f:=t.1) (s:=t.2.1) (r:=t.2.2) hbw HX.out HP3.out HR3.out HM3.out)
theorem bracket_ok (b:Nat) (A:Option Addr) (n c:Nat) (l:List UInt8) (p:Nat) (s:List UInt8) (deep:Int) (pf:List UInt8→Out) (w:World) (hR:Rd w b A n c p) (hr:Row w A n l) (hs:Pl l p s) (ht:OpsTab w) (hc:n≤c) (hd:0≤deep∧deep≤64) (hst:stands [40] s=true) (hp:deep≠64→PartOK 88 b A n c l (deep+1) pf) :
  Calls Tryz.prog 158 #[.pointer (some ⟨b,0,none⟩),.int .i64 deep] w (RgPost b A n c l w (shutF (insideF deep 1 pf s))):=by
 have hbw:=hR.lt
 have HP:=Lib.hid hs
 have HL:=Lib.hid hr.1
 have HR:=Lib.hid hR
 have HRow:=Lib.hid hr
 have HT:=Lib.hid ht
 have H7:Hid (RAt (w.alloc ()) w.heap.size (zeroRV 0)):=RAt.new w 28 (zeroRV 0)
 have HM:Hid (Moved b w (w.alloc ())):=(Moved.refl b w).alloc hbw _
 have HR0:Hid (Rd (w.alloc ()) b A n c p):=hR.alloc _
 have HRow0:Hid (Row (w.alloc ()) A n l):=hr.kept ((Below.refl _ _).alloc (Nat.le_refl _) _)
 have HT0:Hid (OpsTab (w.alloc ())):=ht.keep (Keep.of_below ((Below.refl _ _).alloc (Nat.le_refl _) _))
 have hne:w.heap.size≠b:=by omega
 have hmf:∀ (fn:Fn) (first cap:Array Value) (w:World),(Instr.makeFunc fn first cap).run Tryz.prog w=.ok (.func fn first cap) w:=fun _ _ _ _=>rfl
 clear hR hr hs ht
 obtain ⟨⟨f,s1,r⟩,hk⟩:∃ t,insideF deep 1 pf s=t:=⟨_,rfl⟩
 rw [hk]
 have HKI:=Lib.hid hk
 clear hk
 go_enter Tryz.func158,Tryz.ntmps158
 go_wp2_with fail
 refine (insideE b A n c l p s [40] deep pf _ HR0.out HRow0.out HP.out HT0.out hd hst hp).mono ?_
 have e1:insideF deep ([40]:List UInt8).length pf s=(f,s1,r):=HKI.out
 rw [e1]
 rintro e W1 ⟨x,q1,rfl,hx,hP1,hR1,hM1⟩
 unfold RV.agg
 simp only at hx hP1 ⊢
 have HX:=Lib.hid hx
 rw [size_alloc] at HX
 have HP1:=Lib.hid hP1
 have HR1:=Lib.hid hR1
 have HM1:=Lib.hid (HM.out.trans hM1)
 have H71:=Lib.hid (H7.out.moved hM1 hne)
 have hz1:w.heap.size<W1.heap.size:=H71.out.1
 have HK1:=Lib.hid (HR.out.keep HM1.out)
 have HRow1:=Lib.hid (row_keep HRow.out HK1.out)
 clear hx hP1 hR1 hM1 HR0 HM H7 HRow0 HT0 hp hst
 by_cases h0:f=0
 ·subst h0
  have HF:Hid (shutF (0,s1,r)=if stands [41] s1=true then (0,blanks (s1.drop 1),r) else (lackN s1,s1,noRng)):=if_neg (by simp)
  have hR2:Hid (Rd (W1.alloc x) b A n c q1):=HR1.out.alloc _
  have hM2:Hid (Moved b w (W1.alloc x)):=HM1.out.alloc hbw _
  have h72:Hid (RAt (W1.alloc x) w.heap.size (zeroRV 0)):=H71.out.kept ((Below.refl W1.heap.size W1).alloc (Nat.le_refl _) _) hz1
  have ha2:Hid (RAt (W1.alloc x) W1.heap.size x):=RAt.new W1 28 x
  have hX2:Hid (Lies (W1.alloc x) (From (w.heap.size+1)) r x):=HX.out.keep (KeepS.alloc _ _)
  have hRow2:Hid (Row (W1.alloc x) A n l):=HRow1.out.kept ((Below.refl _ _).alloc (Nat.le_refl _) _)
  clear HR1 HM1 H71 HX HRow1 HK1
  go_wp2_with fail
  refine (stands_any b A n c q1 l s1 [41] _ hR2.out hRow2.out hc HP1.out (by decide)).mono ?_
  rintro e W3 ⟨rfl,hr3,hm3⟩
  have HR3:=Lib.hid hr3
  have HM3:=Lib.hid (hM2.out.trans hm3)
  have H73:=Lib.hid (h72.out.moved hm3 hne)
  have HA3:=Lib.hid (ha2.out.moved hm3 (by omega))
  have HX3:Hid (Lies W3 (From (w.heap.size+1)) r x):=hX2.out.keep (KeepS.moved hm3 (fun h=>by unfold From at h; omega))
  have HRow3:=Lib.hid (row_keep HRow.out (HR.out.keep HM3.out))
  clear hr3 hm3 hR2 hM2 h72 ha2 hX2 hRow2
  cases hst1:stands [41] s1 with
  | true =>
   have HF2:Hid (shutF (0,s1,r)=(0,blanks (s1.drop 1),r)):=HF.out.trans (if_pos hst1)
   have hpm:q1+1≤n:=by
    have h1:=stands_len hst1
    rw [HP1.out.len,HL.out] at h1
    have h2:=HP1.out.le
    rw [HL.out] at h2
    simp only [List.length_singleton] at h1
    omega
   clear hst1
   go_wp2_with fail
   refine (pass_any b A n c q1 1 l s1 _ HR3.out HRow3.out HP1.out hpm).mono ?_
   rintro e W4 ⟨rfl,q4,hq4,hr4,hm4⟩
   have HR4:=Lib.hid hr4
   have HP4:=Lib.hid hq4
   have HM4:=Lib.hid (HM3.out.trans hm4)
   have H74:=Lib.hid (H73.out.moved hm4 hne)
   have HA4:=Lib.hid (HA3.out.moved hm4 (by omega))
   have HX4:Hid (Lies W4 (From (w.heap.size+1)) r x):=HX3.out.keep (KeepS.moved hm4 (fun h=>by unfold From at h; omega))
   clear hr4 hq4 hm4 HR3 HM3 H73 HA3 HX3 HRow3
   obtain ⟨y1,y2,c0,c1,c2,c3,c4,c5,c6⟩:=H74.out
   obtain ⟨_,_,d0,d1,d2,d3,d4,d5,d6⟩:=HA4.out
   go_wp2
   exact bodyPost_ret (v:=.tuple #[.agg #[x.kind,x.v.a,x.v.b,x.v.c,.slice x.A x.v.pre.length x.c,.slice x.B x.v.build.length x.d,.slice x.L x.n x.e],.int .i64 0]) (by simp [results,Tryz.results158,go_sem,c0,c1,c2,c3,c4,c5,c6]) rfl (by rw [HF2.out]; exact rg_end (x:=x) (f:=0) hbw HX4.out HP4.out HR4.out HM4.out)
  | false =>
   have HF2:Hid (shutF (0,s1,r)=(lackN s1,s1,noRng)):=HF.out.trans (if_neg (by rw [hst1]; simp))
   clear hst1
   go_wp2_with fail
   refine (lack_any b A n c q1 l s1 _ HR3.out HRow3.out HP1.out).mono ?_
   rintro e W4 ⟨rfl,hr4,hm4⟩
   have HR4:=Lib.hid hr4
   have HM4:=Lib.hid (HM3.out.trans hm4)
   have H74:=Lib.hid (H73.out.moved hm4 hne)
   clear hr4 hm4 HR3 HM3 H73 HA3 HX3 HRow3
   obtain ⟨y1,y2,c0,c1,c2,c3,c4,c5,c6⟩:=H74.out
   go_wp2
   exact bodyPost_ret (v:=.tuple #[.agg #[.int .i64 0,.int .u64 0,.int .u64 0,.int .u64 0,.slice none 0 0,.slice none 0 0,.slice none 0 0],.int .i64 (lackN s1)]) (by simp [results,Tryz.results158,go_sem,c0,c1,c2,c3,c4,c5,c6]) rfl (by rw [HF2.out]; exact rg_end (x:=zeroRV 0) hbw (Lies.zero _ _ 0) HP1.out HR4.out HM4.out)
 ·have HF:Hid (shutF (f,s1,r)=(f,s1,noRng)):=if_pos h0
  have hb1:((f:Int) != 0)=true:=by simp [h0]
  have hb2:((f:Int) == 0)=false:=by simp [h0]
  clear h0
  obtain ⟨y1,y2,c0,c1,c2,c3,c4,c5,c6⟩:=H71.out
  have hw1:W1.heap.size≠w.heap.size:=by omega
  go_wp2
  exact bodyPost_ret (v:=.tuple #[.agg #[.int .i64 0,.int .u64 0,.int .u64 0,.int .u64 0,.slice none 0 0,.slice none 0 0,.slice none 0 0],.int .i64 f]) (by simp [results,Tryz.results158,go_sem,c0,c1,c2,c3,c4,c5,c6,y1]) rfl (by rw [HF.out]; exact (rg_end (x:=zeroRV 0) hbw (Lies.zero _ _ 0) HP1.out HR1.out HM1.out).alloc hbw _)
theorem not_ok (b:Nat) (A:Option Addr) (n c:Nat) (l:List UInt8) (p:Nat) (s:List UInt8) (deep:Int) (pf:List UInt8→Out) (w:World) (hR:Rd w b A n c p) (hr:Row w A n l) (hs:Pl l p s) (ht:OpsTab w) (hd:0≤deep∧deep≤64) (hst:stands [33] s=true) (hp:deep≠64→PartOK 142 b A n c l (deep+1) pf) :
  Calls Tryz.prog 159 #[.pointer (some ⟨b,0,none⟩),.int .i64 deep] w (RgPost b A n c l w (notF (insideF deep 1 pf s))):=by
 have hbw:=hR.lt
 have HP:=Lib.hid hs
 have HL:=Lib.hid hr.1
 have HR:=Lib.hid hR
 have HRow:=Lib.hid hr
 have HT:=Lib.hid ht
 have H7:Hid (RAt (w.alloc ()) w.heap.size (zeroRV 0)):=RAt.new w 28 (zeroRV 0)
 have HM:Hid (Moved b w (w.alloc ())):=(Moved.refl b w).alloc hbw _
 have HR0:Hid (Rd (w.alloc ()) b A n c p):=hR.alloc _
 have HRow0:Hid (Row (w.alloc ()) A n l):=hr.kept ((Below.refl _ _).alloc (Nat.le_refl _) _)
 have HT0:Hid (OpsTab (w.alloc ())):=ht.keep (Keep.of_below ((Below.refl _ _).alloc (Nat.le_refl _) _))
 have hne:w.heap.size≠b:=by omega
 have hmf:∀ (fn:Fn) (first cap:Array Value) (w:World),(Instr.makeFunc fn first cap).run Tryz.prog w=.ok (.func fn first cap) w:=fun _ _ _ _=>rfl
 clear hR hr hs ht
 obtain ⟨⟨f,s1,r⟩,hk⟩:∃ t,insideF deep 1 pf s=t:=⟨_,rfl⟩
 rw [hk]
 have HKI:=Lib.hid hk
 clear hk
 go_enter Tryz.func159,Tryz.ntmps159
 go_wp2_with fail
 refine (insideO b A n c l p s [33] deep pf _ HR0.out HRow0.out HP.out HT0.out hd hst hp).mono ?_
 have e1:insideF deep ([33]:List UInt8).length pf s=(f,s1,r):=HKI.out
 rw [e1]
 rintro e W1 ⟨x,q1,rfl,hx,hP1,hR1,hM1⟩
 unfold RV.agg
 simp only at hx hP1 ⊢
 have HX:=Lib.hid hx
 rw [size_alloc] at HX
 have HP1:=Lib.hid hP1
 have HR1:=Lib.hid hR1
 have HM1:=Lib.hid (HM.out.trans hM1)
 have H71:=Lib.hid (H7.out.moved hM1 hne)
 have hz1:w.heap.size<W1.heap.size:=H71.out.1
 have HK1:=Lib.hid (HR.out.keep HM1.out)
 have HRow1:=Lib.hid (row_keep HRow.out HK1.out)
 clear hx hP1 hR1 hM1 HR0 HM H7 HRow0 HT0 hp hst
 by_cases h0:f=0
 ·subst h0
  have HF:Hid (notF (0,s1,r)=(0,s1,.mk 11 noVer [r])):=if_neg (by simp)
  obtain ⟨V,hV⟩:∃ V,setR W1 w.heap.size ⟨11,noVer,none,0,none,0,some ⟨W1.heap.size+1,0,none⟩,1,1⟩=V:=⟨_,rfl⟩
  have hVs:V.heap.size=W1.heap.size:=by rw [← hV]; unfold setR; simp
  have hXV:Hid (Lies V (From (w.heap.size+1)) r x):=by rw [← hV]; exact HX.out.keep (setR_keep (Nat.not_succ_le_self _) _)
  have hX2:Hid (Lies ((V.alloc x).alloc x) (From (w.heap.size+1)) r x):=(hXV.out.keep (KeepS.alloc _ _)).keep (KeepS.alloc _ _)
  have hrow:Hid (RgRow ((V.alloc x).alloc x) (From (w.heap.size+1)) (some ⟨W1.heap.size+1,0,none⟩) 1 [r]):=by
   refine ⟨fun _=>x,rfl,fun _=>⟨W1.heap.size+1,0,rfl,by unfold From; omega,fun k hk i u hu=>?_⟩,fun k hk=>?_⟩
   ·obtain rfl:k=0:=by omega
    have:=news_new (V.alloc x) x.vals 28 i u hu
    rw [size_alloc,add_none,hVs] at this
    rw [Nat.zero_mul,Nat.add_zero]; exact this
   ·obtain rfl:k=0:=by omega
    exact hX2.out
  have hR2:Hid (Rd ((V.alloc x).alloc x) b A n c q1):=by rw [← hV]; exact ((setR_rd HR1.out hbw _).alloc _).alloc _
  have hM2:Hid (Moved b w ((V.alloc x).alloc x)):=by rw [← hV]; exact ((setR_moved HM1.out hbw (Nat.le_refl _) _).alloc hbw _).alloc hbw _
  have hfin:Hid (RgPost b A n c l w (0,s1,.mk 11 noVer [r]) (.returned (.tuple #[(RV.agg ⟨11,noVer,none,0,none,0,some ⟨W1.heap.size+1,0,none⟩,1,1⟩),.int .i64 0])) ((V.alloc x).alloc x)) :=
   ⟨⟨11,noVer,none,0,none,0,some ⟨W1.heap.size+1,0,none⟩,1,1⟩,q1,rfl,(Lies.many 11 hrow.out (Nat.le_refl _) (fun h=>by cases h)).from_ (Nat.le_succ _),HP1.out,hR2.out,hM2.out⟩
  rw [← hV] at hfin
  clear hV hVs hXV hX2 hrow hR2 hM2
  obtain ⟨y1,y2,c0,c1,c2,c3,c4,c5,c6⟩:=H71.out
  have hw1:W1.heap.size≠w.heap.size:=by omega
  have hw2:W1.heap.size+1≠w.heap.size:=by omega
  have y3:w.heap.size<W1.heap.size+1:=by omega
  go_wp2
  exact bodyPost_ret (v:=.tuple #[.agg #[.int .i64 11,.int .u64 0,.int .u64 0,.int .u64 0,.slice none 0 0,.slice none 0 0,.slice (some ⟨W1.heap.size+1,0,none⟩) 1 1],.int .i64 0]) (by simp [results,Tryz.results159,go_sem,c0,c1,c2,c3,c4,c5,c6,y1,y3]) rfl (by rw [HF.out]; exact hfin.out)
 ·have HF:Hid (notF (f,s1,r)=(f,s1,noRng)):=if_pos h0
  have hb1:((f:Int) != 0)=true:=by simp [h0]
  have hb2:((f:Int) == 0)=false:=by simp [h0]
  clear h0
  obtain ⟨y1,y2,c0,c1,c2,c3,c4,c5,c6⟩:=H71.out
  have hw1:W1.heap.size≠w.heap.size:=by omega
  go_wp2
  exact bodyPost_ret (v:=.tuple #[.agg #[.int .i64 0,.int .u64 0,.int .u64 0,.int .u64 0,.slice none 0 0,.slice none 0 0,.slice none 0 0],.int .i64 f]) (by simp [results,Tryz.results159,go_sem,c0,c1,c2,c3,c4,c5,c6,y1]) rfl (by rw [HF.out]; exact (rg_end (x:=zeroRV 0) hbw (Lies.zero _ _ 0) HP1.out HR1.out HM1.out).alloc hbw _)
end Go.Proofs.YtgfbflnhjpbceaaGreatDoor.Range
namespace Go.Proofs.YtgfbflnhjpbceaaGreatDoor.Nrm
open Go.RowKit Num Ident Semver Prec Span
open Range (Rng noRng goodR goodL fits wt wtL)
def Alike (C:List Cut) (a b:Cut):Prop:=∀ x ∈ C,stand x a≤0↔stand x b≤0
theorem Alike.one {C:List Cut} {a b:Cut} (h:Alike C a b) {s:Sp} (h1:s.lo ∈ C) (h2:s.hi ∈ C):inOne s a↔inOne s b:=by
 have e1:=h _ h1
 have e2:=h _ h2
 have f1:=stand_flip s.hi a
 have f2:=stand_flip s.hi b
 unfold inOne
 omega
mutual
def cutsR:Rng→List Cut
 | .mk _ v l=>low :: high :: aheadOf v :: behindOf v :: endCut (caretV v) :: endCut (tildeV v) :: cutsL l
def cutsL:List Rng→List Cut
 | []=>[]
 | r :: rs=>cutsR r ++ cutsL rs
end
theorem cutsR_eq (k:Int) (v:Ver) (l:List Rng):cutsR (.mk k v l)=low :: high :: aheadOf v :: behindOf v :: endCut (caretV v) :: endCut (tildeV v) :: cutsL l:=by rw [cutsR]
theorem cutsL_cons (r:Rng) (l:List Rng):cutsL (r :: l)=cutsR r ++ cutsL l:=by rw [cutsL]
mutual
theorem cutsR_len:∀ r:Rng,(cutsR r).length=6 * wt r
 | .mk k v l=>by
  have:=cutsL_len l
  rw [cutsR_eq,Range.wt_eq]
  show (cutsL l).length+1+1+1+1+1+1=6 * (1+wtL l)
  omega
theorem cutsL_len:∀ l:List Rng,(cutsL l).length=6 * wtL l
 | []=>by rw [cutsL]; rfl
 | r :: l=>by
  have h1:=cutsR_len r
  have h2:=cutsL_len l
  rw [cutsL_cons,List.length_append,Range.wtL_cons]
  omega
end
theorem alike_K {C:List Cut} {a b:Cut} (h:Alike C a b) (k:Int) {v:Ver} (hl:low ∈ C) (hh:high ∈ C) (h1:aheadOf v ∈ C) (h2:behindOf v ∈ C) (h3:endCut (caretV v) ∈ C) (h4:endCut (tildeV v) ∈ C):inK k v a↔inK k v b:=by
 have lo:loOf k v ∈ C:=by unfold loOf; split; exact h1; split; exact h2; exact hl
 have hi:hiOf k v ∈ C:=by unfold hiOf; split; exact h2; split; exact h1; split; exact h3; split; exact h4; exact hh
 unfold inK
 split
 ·exact not_congr (h.one h1 h2)
 ·exact h.one lo hi
mutual
theorem turnsR:∀ (r:Rng) (C:List Cut) (a b:Cut),(∀ x ∈ cutsR r,x ∈ C)→Alike C a b→(inC r a↔inC r b)
 | .mk k v l,C,a,b,hC,h=>by
  rw [cutsR_eq] at hC
  have hl:=turnsL l C a b (fun x hx=>hC x (by simp [hx])) h
  have e0:=h.one (s:=⟨low,high⟩) (hC _ (by simp)) (hC _ (by simp))
  have e1:=alike_K h k (v:=v) (hC _ (by simp)) (hC _ (by simp)) (hC _ (by simp)) (hC _ (by simp)) (hC _ (by simp)) (hC _ (by simp))
  rw [inC_eq,inC_eq]
  refine and_congr e0 ?_
  split
  ·rw [allC_iff,allC_iff]; exact ⟨fun g x hx=>(hl x hx).1 (g x hx),fun g x hx=>(hl x hx).2 (g x hx)⟩
  ·split
   ·rw [anyC_iff,anyC_iff]; exact ⟨fun ⟨x,hx,g⟩=>⟨x,hx,(hl x hx).1 g⟩,fun ⟨x,hx,g⟩=>⟨x,hx,(hl x hx).2 g⟩⟩
   ·split
    ·cases l with
     | nil=>exact Iff.rfl
     | cons x l=>exact not_congr (by rw [headC,headC]; exact hl x (List.mem_cons_self ..))
    ·exact e1
theorem turnsL:∀ (l:List Rng) (C:List Cut) (a b:Cut),(∀ x ∈ cutsL l,x ∈ C)→Alike C a b→∀ x ∈ l,(inC x a↔inC x b)
 | [],_,_,_,_,_=>fun x hx=>by cases hx
 | r :: rs,C,a,b,hC,h=>by
  rw [cutsL_cons] at hC
  have h1:=turnsR r C a b (fun x hx=>hC x (List.mem_append_left _ hx)) h
  have h2:=turnsL rs C a b (fun x hx=>hC x (List.mem_append_right _ hx)) h
  intro x hx
  rcases List.mem_cons.1 hx with rfl | hx
  ·exact h1
  ·exact h2 x hx
end
theorem greatest:∀ (D:List Cut),D≠[]→∃ m ∈ D,∀ x ∈ D,stand x m≤0
 | [],h=>absurd rfl h
 | [a],_=>⟨a,List.mem_singleton.2 rfl,fun x hx=>by rw [List.mem_singleton] at hx; rw [hx,stand_self]; exact Int.le_refl _⟩
 | a :: b :: D,_=>by
  obtain ⟨m,hm,h⟩:=greatest (b :: D) (by simp)
  by_cases g:stand a m≤0
  ·refine ⟨m,List.mem_cons_of_mem _ hm,fun x hx=>?_⟩
   rcases List.mem_cons.1 hx with rfl | hx
   ·exact g
   ·exact h x hx
  ·refine ⟨a,List.mem_cons_self ..,fun x hx=>?_⟩
   rcases List.mem_cons.1 hx with rfl | hx
   ·rw [stand_self]; exact Int.le_refl _
   ·exact le_le (h x hx) (Int.le_of_lt (not_le g))
theorem apart:∀ {o:List Sp},Norm o→∀ {s t:Sp},s ∈ o→t ∈ o→s=t∨stand s.hi t.lo<0∨stand t.hi s.lo<0
 | [],_,s,t,hs,_=>by cases hs
 | u :: o,h,s,t,hs,ht=>by
  rcases List.mem_cons.1 hs with e1 | h1
  ·rcases List.mem_cons.1 ht with e2 | h2
   ·exact .inl (e1.trans e2.symm)
   ·rw [e1]; exact .inr (.inl (h.ahead t h2))
  ·rcases List.mem_cons.1 ht with e2 | h2
   ·rw [e2]; exact .inr (.inr (h.ahead s h1))
   ·exact apart h.tail h1 h2
theorem lo_turns {o:List Sp} {C:List Cut} {P:Cut→Prop} (hN:Norm o) (hP:∀ c,inS o c↔P c) (hl:low ∈ C) (ht:∀ a b,Alike C a b→(P a↔P b)) {t:Sp} (hto:t ∈ o):∃ x ∈ C,stand x t.lo=0:=by
 refine Classical.byContradiction fun hn=>?_
 have hne:∀ x ∈ C,stand x t.lo≠0:=fun x hx e=>hn ⟨x,hx,e⟩
 obtain ⟨r1,r2,r3⟩:=(cnt_iff t).1 (hN.cnt t hto)
 have D1:∀ x,x ∈ C.filter (fun x=>decide (stand x t.lo<0)) ++ (o.filter (fun s=>decide (stand s.hi t.lo<0))).map Sp.hi↔(x ∈ C∧stand x t.lo<0)∨∃ s ∈ o,stand s.hi t.lo<0∧s.hi=x:=by
  intro x
  rw [List.mem_append,List.mem_filter,List.mem_map]
  simp only [decide_eq_true_eq,List.mem_filter,and_assoc]
 have hlow:stand low t.lo<0:=by have h1:=low_le r1; have h2:=hne _ hl; omega
 obtain ⟨D,hD⟩:∃ D,D=C.filter (fun x=>decide (stand x t.lo<0)) ++ (o.filter (fun s=>decide (stand s.hi t.lo<0))).map Sp.hi:=⟨_,rfl⟩
 rw [← hD] at D1
 obtain ⟨m,hm,hg⟩:=greatest D (fun e=>by
  have h:=(D1 low).2 (.inl ⟨hl,hlow⟩)
  rw [e] at h; cases h)
 have hml:stand m t.lo<0:=by
  rcases (D1 m).1 hm with ⟨_,h⟩ | ⟨s,_,h,rfl⟩
  ·exact h
  ·exact h
 have hal:Alike C m t.lo:=fun x hx=>⟨fun h=>le_le h (Int.le_of_lt hml),fun h=>hg x ((D1 x).2 (.inl ⟨hx,by have:=hne x hx; omega⟩))⟩
 have hin:inS o m:=(hP m).2 ((ht _ _ hal).2 ((hP _).1 ⟨t,hto,by rw [stand_self]; exact Int.le_refl _,r3⟩))
 obtain ⟨s,hs,h1,h2⟩:=hin
 rcases apart hN hs hto with rfl | h | h
 ·exact le_not h1 hml
 ·exact le_not (hg s.hi ((D1 _).2 (.inr ⟨s,hs,h,rfl⟩))) h2
 ·exact le_not (le_le (Int.le_of_lt (lt_lt r3 h)) h1) hml
theorem len_of_lo:∀ (o:List Sp) (C:List Cut),Norm o→(∀ t ∈ o,∃ x ∈ C,stand x t.lo=0)→o.length≤C.length
 | [],_,_,_=>Nat.zero_le _
 | s :: o,C,hN,h=>by
  have ih:=len_of_lo o (C.filter fun x=>decide (stand s.lo x<0)) hN.tail (fun t ht=>by
   obtain ⟨x,hx,e⟩:=h t (List.mem_cons_of_mem _ ht)
   have h1:=lt_lt hN.head.2.2 (hN.ahead t ht)
   have h2:=like_flip e
   exact ⟨x,List.mem_filter.2 ⟨hx,decide_eq_true (lt_le h1 (by omega))⟩,e⟩)
  obtain ⟨x,hx,e⟩:=h s (List.mem_cons_self ..)
  have hlt:(C.filter fun x=>decide (stand s.lo x<0)).length<C.length:=by
   refine List.length_filter_lt_length_iff_exists.2 ⟨x,hx,?_⟩
   have:=like_flip e
   simp only [decide_eq_true_eq]
   omega
  show o.length+1≤C.length
  omega
theorem set_len {r:Rng} {o:List Sp} (h:SetOf r o):o.length≤6 * wt r:=by
 rw [← cutsR_len]
 refine len_of_lo o _ h.1 fun t ht=>lo_turns h.1 h.2 ?_ (fun a b hab=>turnsR r _ a b (fun x hx=>hx) hab) ht
 obtain ⟨k,v,l⟩:=r
 rw [cutsR_eq]; exact List.mem_cons_self ..
end Go.Proofs.YtgfbflnhjpbceaaGreatDoor.Nrm
