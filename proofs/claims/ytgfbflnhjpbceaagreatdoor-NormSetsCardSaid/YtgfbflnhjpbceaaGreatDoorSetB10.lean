/-
  What the theorem of the last text needs of these: SpSweep, RgMem. Conditions: as each theorem states.
-/
import Derived.Test.YtgfbflnhjpbceaaGreatDoorSetB1
import Derived.Test.YtgfbflnhjpbceaaGreatDoorSetB2
import Derived.Test.YtgfbflnhjpbceaaGreatDoorSetB3
import Derived.Test.YtgfbflnhjpbceaaGreatDoorSetB7
import Derived.Test.YtgfbflnhjpbceaaGreatDoorSetB8
import Derived.Deep.Draws
set_option maxRecDepth 100000
set_option maxHeartbeats 25600000
namespace Go.Proofs.YtgfbflnhjpbceaaGreatDoor.Span
open Go.RowKit Num Ident Semver Prec

structure Edge where
 cut:Cut
 step:Int
def cov (l:List Edge) (c:Cut):Int:=(l.map fun e=>if stand e.cut c≤0 then e.step else 0).sum
def total (l:List Edge):Int:=(l.map fun e=>e.step).sum
theorem cov_nil (c:Cut):cov [] c=0:=rfl
theorem cov_cons (e:Edge) (l:List Edge) (c:Cut):cov (e :: l) c=(if stand e.cut c≤0 then e.step else 0)+cov l c:=by unfold cov; rw [List.map_cons,List.sum_cons]
theorem cov_append (l m:List Edge) (c:Cut):cov (l ++ m) c=cov l c+cov m c:=by unfold cov; rw [List.map_append,List.sum_append]
theorem total_cons (e:Edge) (l:List Edge):total (e :: l)=e.step+total l:=by unfold total; rw [List.map_cons,List.sum_cons]
theorem total_append (l m:List Edge):total (l ++ m)=total l+total m:=by unfold total; rw [List.map_append,List.sum_append]
theorem cov_perm {l m:List Edge} (h:l.Perm m) (c:Cut):cov l c=cov m c:=by
 induction h with
 | nil=>rfl
 | cons x _ ih=>rw [cov_cons,cov_cons,ih]
 | swap x y l=>rw [cov_cons,cov_cons,cov_cons,cov_cons]; omega
 | trans _ _ h1 h2=>rw [h1,h2]
theorem total_perm {l m:List Edge} (h:l.Perm m):total l=total m:=by
 induction h with
 | nil=>rfl
 | cons x _ ih=>rw [total_cons,total_cons,ih]
 | swap x y l=>rw [total_cons,total_cons,total_cons,total_cons]; omega
 | trans _ _ h1 h2=>rw [h1,h2]
theorem cov_none {l:List Edge} {c:Cut} (h:∀ e ∈ l,stand c e.cut<0):cov l c=0:=by
 induction l with
 | nil=>rfl
 | cons e l ih =>
  rw [cov_cons,if_neg (lt_not (h e (List.mem_cons_self ..))),ih fun x hx=>h x (List.mem_cons_of_mem _ hx)]; rfl
def edgesOf (l:List Sp) (step:Int):List Edge:=(l.filter cnt).flatMap fun s=>[⟨s.lo,step⟩,⟨s.hi,0 - step⟩]
theorem edgesOf_yes {s:Sp} (l:List Sp) (step:Int) (h:cnt s=true):edgesOf (s :: l) step=⟨s.lo,step⟩ :: ⟨s.hi,0 - step⟩ :: edgesOf l step:=by
 unfold edgesOf; rw [List.filter_cons_of_pos h]; rfl
theorem edgesOf_no {s:Sp} (l:List Sp) (step:Int) (h:cnt s=false):edgesOf (s :: l) step=edgesOf l step:=by
 unfold edgesOf; rw [List.filter_cons_of_neg (by simp [h])]
theorem edgesOf_snoc_yes {s:Sp} (l:List Sp) (step:Int) (h:cnt s=true):edgesOf (l ++ [s]) step=edgesOf l step ++ [⟨s.lo,step⟩,⟨s.hi,0 - step⟩]:=by
 unfold edgesOf; rw [List.filter_append,List.flatMap_append,List.filter_cons_of_pos h]; rfl
theorem edgesOf_snoc_no {s:Sp} (l:List Sp) (step:Int) (h:cnt s=false):edgesOf (l ++ [s]) step=edgesOf l step:=by
 unfold edgesOf; rw [List.filter_append,List.flatMap_append,List.filter_cons_of_neg (by simp [h])]; simp
theorem edgesOf_total (l:List Sp) (step:Int):total (edgesOf l step)=0:=by
 induction l with
 | nil=>rfl
 | cons s l ih =>
  cases h:cnt s
  ·rw [edgesOf_no l step h]; exact ih
  ·rw [edgesOf_yes l step h,total_cons,total_cons,ih]; show step+(0 - step+0)=0; omega
theorem edgesOf_right (l:List Sp) (step:Int):∀ e ∈ edgesOf l step,right e.cut=true:=by
 induction l with
 | nil=>intro e he; cases he
 | cons s l ih =>
  intro e he
  cases h:cnt s
  ·rw [edgesOf_no l step h] at he; exact ih e he
  ·rw [edgesOf_yes l step h] at he
   have hc:=(cnt_iff s).1 h
   rcases List.mem_cons.1 he with rfl | he
   ·exact hc.1
   ·rcases List.mem_cons.1 he with rfl | he
    ·exact hc.2.1
    ·exact ih e he
theorem edgesOf_step (l:List Sp) (step:Int):∀ e ∈ edgesOf l step,e.step=step∨e.step=0 - step:=by
 induction l with
 | nil=>intro e he; cases he
 | cons s l ih =>
  intro e he
  cases h:cnt s
  ·rw [edgesOf_no l step h] at he; exact ih e he
  ·rw [edgesOf_yes l step h] at he
   rcases List.mem_cons.1 he with rfl | he
   ·exact .inl rfl
   ·rcases List.mem_cons.1 he with rfl | he
    ·exact .inr rfl
    ·exact ih e he
def times (l:List Sp) (c:Cut):Nat:=(l.filter fun s=>cnt s && (decide (stand s.lo c≤0) && decide (stand c s.hi<0))).length
theorem times_yes {s:Sp} (l:List Sp) {c:Cut} (h:cnt s=true) (h1:inOne s c):times (s :: l) c=times l c+1:=by
 unfold times; rw [List.filter_cons_of_pos (by simp [h,h1.1,h1.2])]; rfl
theorem times_no {s:Sp} (l:List Sp) {c:Cut} (h:¬ (cnt s=true∧inOne s c)):times (s :: l) c=times l c:=by
 unfold times; rw [List.filter_cons_of_neg (by intro k; simp at k; exact h ⟨k.1,k.2.1,k.2.2⟩)]
theorem edgesOf_cov (l:List Sp) (step:Int) (c:Cut):cov (edgesOf l step) c=step * (times l c:Int):=by
 induction l with
 | nil=>simp [edgesOf,times,cov]
 | cons s l ih =>
  cases h:cnt s
  ·rw [edgesOf_no l step h,times_no l (fun k=>by rw [h] at k; cases k.1)]; exact ih
  ·rw [edgesOf_yes l step h,cov_cons,cov_cons,ih]
   have hc:=(cnt_iff s).1 h
   show (if stand s.lo c≤0 then step else 0)+((if stand s.hi c≤0 then 0 - step else 0)+_)=_
   by_cases h1:stand s.lo c≤0
   ·by_cases h2:stand s.hi c≤0
    ·rw [if_pos h1,if_pos h2,times_no l (fun k=>le_not h2 k.2.2)]; omega
    ·rw [if_pos h1,if_neg h2,times_yes l h ⟨h1,not_le h2⟩,Int.natCast_add,Int.mul_add]
     simp; omega
   ·have h2:¬ stand s.hi c≤0:=fun k=>h1 (le_le (by have:=hc.2.2; omega) k)
    rw [if_neg h1,if_neg h2,times_no l (fun k=>h1 k.2.1)]; omega
theorem times_pos (l:List Sp) (c:Cut):1≤times l c↔inR l c:=by
 induction l with
 | nil =>
  constructor
  ·intro h; simp [times] at h
  ·rintro ⟨s,hs,_⟩; cases hs
 | cons s l ih =>
  by_cases h:cnt s=true∧inOne s c
  ·rw [times_yes l h.1 h.2]
   exact ⟨fun _=>⟨s,List.mem_cons_self ..,h⟩,fun _=>by omega⟩
  ·rw [times_no l h,ih]
   constructor
   ·rintro ⟨t,ht,k⟩; exact ⟨t,List.mem_cons_of_mem _ ht,k⟩
   ·rintro ⟨t,ht,k⟩
    rcases List.mem_cons.1 ht with rfl | ht
    ·exact absurd k h
    ·exact ⟨t,ht,k⟩
theorem Norm.once {l:List Sp} (h:Norm l) (c:Cut):times l c≤1:=by
 induction l with
 | nil=>simp [times]
 | cons s l ih =>
  by_cases k:Span.cnt s=true∧inOne s c
  ·rw [times_yes l k.1 k.2]
   have:¬ 1≤times l c:=by
    rw [times_pos]
    rintro ⟨t,ht,_,i⟩
    exact lt_not (h.ahead t ht) (le_le i.1 (by have:=k.2.2; omega))
   omega
  ·rw [times_no l k]; exact ih h.tail

def go (n:Int):Cut→Bool→Int→Cut→List Edge→List Sp
 | _,_,_,_,[]=>[]
 | cut,was,t,lo,[e] =>
  if was=true∧¬ n≤t+e.step then [⟨lo,cut⟩] else []
 | cut,was,t,lo,e :: f :: r =>
  if stand cut f.cut=0 then go n cut was (t+e.step) lo (f :: r)
  else if n≤t+e.step∧was=false then go n f.cut true (t+e.step) cut (f :: r)
  else if was=true∧¬ n≤t+e.step then ⟨lo,cut⟩ :: go n f.cut false (t+e.step) lo (f :: r)
  else go n f.cut was (t+e.step) lo (f :: r)
def sweepL (n:Int):List Edge→List Sp
 | []=>[]
 | e :: r=>go n e.cut (decide (n≤0)) 0 low (e :: r)

structure Open (cut:Cut) (was:Bool) (lo:Cut) (out:List Sp):Prop where
 norm:Norm out
 yes:was=true→∃ h r,out=⟨lo,h⟩ :: r∧stand cut h≤0∧∀ s ∈ r,stand cut s.lo<0
 no:was=false→∀ s ∈ out,stand cut s.lo≤0

theorem sorted_ge {e:Edge} {r:List Edge} (h:(e :: r).Pairwise fun x y=>stand x.cut y.cut≤0):∀ x ∈ r,stand e.cut x.cut≤0:=(List.pairwise_cons.1 h).1

theorem go_open (n:Int):∀ (l:List Edge) (cut:Cut) (was:Bool) (t:Int) (lo:Cut),l≠[]→(l.Pairwise fun x y=>stand x.cut y.cut≤0)→(∀ e ∈ l,right e.cut=true)→right cut=true →
  (∀ e ∈ l,stand cut e.cut≤0)→(∃ e r,l=e :: r∧stand cut e.cut=0)→(was=true→right lo=true∧stand lo cut<0)→t+total l<n →
  Open cut was lo (go n cut was t lo l)∧∀ c,inS (go n cut was t lo l) c↔(if stand c cut<0 then was=true∧stand lo c≤0 else n≤t+cov l c)
 | [],_,_,_,_,h,_,_,_,_,_,_,_=>absurd rfl h
 | [e],cut,was,t,lo,_,_,_,hc,_,he,hlo,ht=>by
  obtain ⟨e',r',heq,hz⟩:=he
  obtain ⟨rfl,rfl⟩:e=e'∧[]=r':=by injection heq with h1 h2; exact ⟨h1,h2⟩
  have ht2:¬ n≤t+e.step:=by rw [total_cons] at ht; have:total []=0:=rfl; omega
  have hcov:∀ c,¬ stand c cut<0→t+cov [e] c=t+e.step:=fun c h=>by
   rw [cov_cons,cov_nil,if_pos (le_le (by have:=like_flip hz; omega) (not_lt h))]; omega
  unfold go
  cases was with
  | true =>
   rw [if_pos ⟨rfl,ht2⟩]
   obtain ⟨h1,h2⟩:=hlo rfl
   refine ⟨⟨⟨fun s hs=>?_,List.pairwise_singleton _ _⟩,fun _=>⟨cut,[],rfl,by rw [stand_self]; exact Int.le_refl 0,(fun s hs=>by cases hs)⟩,(fun h=>by cases h)⟩,fun c=>?_⟩
   ·rw [List.mem_singleton] at hs; subst hs; exact (cnt_iff _).2 ⟨h1,hc,h2⟩
   ·by_cases k:stand c cut<0
    ·rw [if_pos k]
     constructor
     ·rintro ⟨s,hs,i⟩; rw [List.mem_singleton] at hs; subst hs; exact ⟨rfl,i.1⟩
     ·rintro ⟨_,i⟩; exact ⟨_,List.mem_singleton.2 rfl,i,k⟩
    ·rw [if_neg k,hcov c k]
     constructor
     ·rintro ⟨s,hs,i⟩; rw [List.mem_singleton] at hs; subst hs; exact absurd i.2 k
     ·intro h; exact absurd h ht2
  | false =>
   rw [if_neg (by rintro ⟨h,_⟩; cases h)]
   refine ⟨⟨Norm.nil,(fun h=>by cases h),fun _ s hs=>by cases hs⟩,fun c=>?_⟩
   by_cases k:stand c cut<0
   ·rw [if_pos k]
    constructor
    ·rintro ⟨s,hs,_⟩; cases hs
    ·rintro ⟨h,_⟩; cases h
   ·rw [if_neg k,hcov c k]
    constructor
    ·rintro ⟨s,hs,_⟩; cases hs
    ·intro h; exact absurd h ht2
 | e :: f :: r,cut,was,t,lo,_,hp,hr,hc,hge,he,hlo,ht=>by
  obtain ⟨e',r',heq,hz⟩:=he
  obtain ⟨rfl,rfl⟩:e=e'∧f :: r=r':=by injection heq with h1 h2; exact ⟨h1,h2⟩
  have hp2:=(List.pairwise_cons.1 hp).2
  have hr2:∀ x ∈ f :: r,right x.cut=true:=fun x hx=>hr x (List.mem_cons_of_mem _ hx)
  have ht2:t+e.step+total (f :: r)<n:=by rw [total_cons] at ht; omega
  have hge2:∀ x ∈ f :: r,stand cut x.cut≤0:=fun x hx=>hge x (List.mem_cons_of_mem _ hx)
  have hcov:∀ c,¬ stand c cut<0→t+cov (e :: f :: r) c=t+e.step+cov (f :: r) c:=fun c h=>by
   rw [cov_cons,if_pos (le_le (by have:=like_flip hz; omega) (not_lt h))]; omega
  have hfge:∀ x ∈ f :: r,stand f.cut x.cut≤0:=fun x hx=>by
   rcases List.mem_cons.1 hx with rfl | hx
   ·rw [stand_self]; exact Int.le_refl 0
   ·exact sorted_ge hp2 x hx
  unfold go
  by_cases h0:stand cut f.cut=0
  ·rw [if_pos h0]
   obtain ⟨o,k⟩:=go_open n (f :: r) cut was (t+e.step) lo (by simp) hp2 hr2 hc hge2 ⟨f,r,rfl,h0⟩ hlo ht2
   refine ⟨o,fun c=>(k c).trans ?_⟩
   by_cases q:stand c cut<0
   ·rw [if_pos q,if_pos q]
   ·rw [if_neg q,if_neg q,hcov c q]
  ·rw [if_neg h0]
   have hcf:stand cut f.cut<0:=by have:=hge2 f (List.mem_cons_self ..); omega
   have hfr:=hr2 f (List.mem_cons_self ..)
   have hself:∃ e r',f :: r=e :: r'∧stand f.cut e.cut=0:=⟨f,r,rfl,stand_self _⟩
   have hmid:∀ c,¬ stand c cut<0→stand c f.cut<0→t+e.step+cov (f :: r) c=t+e.step:=fun c _ h=>by
    rw [cov_none fun x hx=>lt_le h (hfge x hx)]; omega
   by_cases h1:n≤t+e.step∧was=false
   ·rw [if_pos h1]
    obtain ⟨h1,rfl⟩:=h1
    obtain ⟨o,k⟩:=go_open n (f :: r) f.cut true (t+e.step) cut (by simp) hp2 hr2 hfr hfge hself (fun _=>⟨hc,hcf⟩) ht2
    obtain ⟨h,q,e1,e2,e3⟩:=o.yes rfl
    refine ⟨⟨o.norm,(fun h=>by cases h),fun _ s hs=>?_⟩,fun c=>(k c).trans ?_⟩
    ·rw [e1] at hs
     rcases List.mem_cons.1 hs with rfl | hs
     ·show stand cut cut≤0; rw [stand_self]; exact Int.le_refl 0
     ·have:=lt_lt hcf (e3 s hs); omega
    ·by_cases q1:stand c cut<0
     ·rw [if_pos q1,if_pos (lt_lt q1 hcf)]
      constructor
      ·rintro ⟨_,g⟩; exact absurd q1 (le_not g)
      ·rintro ⟨g,_⟩; cases g
     ·rw [if_neg q1,hcov c q1]
      by_cases q2:stand c f.cut<0
      ·rw [if_pos q2,hmid c q1 q2]
       exact ⟨fun _=>h1,fun _=>⟨rfl,not_lt q1⟩⟩
      ·rw [if_neg q2]
   ·rw [if_neg h1]
    by_cases h2:was=true∧¬ n≤t+e.step
    ·rw [if_pos h2]
     obtain ⟨rfl,h2⟩:=h2
     obtain ⟨l1,l2⟩:=hlo rfl
     obtain ⟨o,k⟩:=go_open n (f :: r) f.cut false (t+e.step) lo (by simp) hp2 hr2 hfr hfge hself (fun h=>by cases h) ht2
     have hno:=o.no rfl
     refine ⟨⟨⟨fun s hs=>?_,List.pairwise_cons.2 ⟨fun s hs=>?_,o.norm.gap⟩⟩,fun _=>⟨cut,_,rfl,by rw [stand_self]; exact Int.le_refl 0,fun s hs=>lt_le hcf (hno s hs)⟩,fun h=>by cases h⟩,fun c=>?_⟩
     ·rcases List.mem_cons.1 hs with rfl | hs
      ·exact (cnt_iff _).2 ⟨l1,hc,l2⟩
      ·exact o.norm.cnt s hs
     ·exact lt_le hcf (hno s hs)
     ·by_cases q1:stand c cut<0
      ·rw [if_pos q1]
       constructor
       ·rintro ⟨s,hs,i⟩
        rcases List.mem_cons.1 hs with rfl | hs
        ·exact ⟨rfl,i.1⟩
        ·exact absurd (le_le (hno s hs) i.1) (lt_not (lt_lt q1 hcf))
       ·rintro ⟨_,i⟩; exact ⟨_,List.mem_cons_self ..,i,q1⟩
      ·rw [if_neg q1,hcov c q1]
       have step:inS (⟨lo,cut⟩ :: go n f.cut false (t+e.step) lo (f :: r)) c↔inS (go n f.cut false (t+e.step) lo (f :: r)) c:=by
        constructor
        ·rintro ⟨s,hs,i⟩
         rcases List.mem_cons.1 hs with rfl | hs
         ·exact absurd i.2 q1
         ·exact ⟨s,hs,i⟩
        ·rintro ⟨s,hs,i⟩; exact ⟨s,List.mem_cons_of_mem _ hs,i⟩
       refine (step.trans (k c)).trans ?_
       by_cases q2:stand c f.cut<0
       ·rw [if_pos q2,hmid c q1 q2]
        constructor
        ·rintro ⟨g,_⟩; cases g
        ·intro g; exact absurd g h2
       ·rw [if_neg q2]
    ·rw [if_neg h2]
     cases was with
     | true =>
      have h3:n≤t+e.step:=by
       by_cases g:n≤t+e.step
       ·exact g
       ·exact absurd ⟨rfl,g⟩ h2
      obtain ⟨l1,l2⟩:=hlo rfl
      obtain ⟨o,k⟩:=go_open n (f :: r) f.cut true (t+e.step) lo (by simp) hp2 hr2 hfr hfge hself (fun _=>⟨l1,lt_lt l2 hcf⟩) ht2
      obtain ⟨h,q,e1,e2,e3⟩:=o.yes rfl
      refine ⟨⟨o.norm,fun _=>⟨h,q,e1,le_le (by omega) e2,fun s hs=>lt_lt hcf (e3 s hs)⟩,fun h=>by cases h⟩,fun c=>(k c).trans ?_⟩
      by_cases q1:stand c cut<0
      ·rw [if_pos q1,if_pos (lt_lt q1 hcf)]
      ·rw [if_neg q1,hcov c q1]
       by_cases q2:stand c f.cut<0
       ·rw [if_pos q2,hmid c q1 q2]
        exact ⟨fun _=>h3,fun _=>⟨rfl,le_le (by omega) (not_lt q1)⟩⟩
       ·rw [if_neg q2]
     | false =>
      have h3:¬ n≤t+e.step:=fun g=>h1 ⟨g,rfl⟩
      obtain ⟨o,k⟩:=go_open n (f :: r) f.cut false (t+e.step) lo (by simp) hp2 hr2 hfr hfge hself (fun h=>by cases h) ht2
      have hno:=o.no rfl
      refine ⟨⟨o.norm,(fun h=>by cases h),fun _ s hs=>?_⟩,fun c=>(k c).trans ?_⟩
      ·have:=lt_le hcf (hno s hs); omega
      ·by_cases q1:stand c cut<0
       ·rw [if_pos q1,if_pos (lt_lt q1 hcf)]
       ·rw [if_neg q1,hcov c q1]
        by_cases q2:stand c f.cut<0
        ·rw [if_pos q2,hmid c q1 q2]
         constructor
         ·rintro ⟨g,_⟩; cases g
         ·intro g; exact absurd g h3
        ·rw [if_neg q2]
theorem sweep_norm {n:Int} (hn:0<n) {l:List Edge} (hp:l.Pairwise fun x y=>stand x.cut y.cut≤0) (hr:∀ e ∈ l,right e.cut=true) (ht:total l<n) :
  Norm (sweepL n l)∧∀ c,inS (sweepL n l) c↔n≤cov l c:=by
 cases l with
 | nil =>
  refine ⟨Norm.nil,fun c=>⟨(fun ⟨s,hs,_⟩=>by cases hs),fun h=>?_⟩⟩
  rw [cov_nil] at h; omega
 | cons e r =>
  have hd:decide (n≤0)=false:=decide_eq_false (by omega)
  have hge:∀ x ∈ e :: r,stand e.cut x.cut≤0:=fun x hx=>by
   rcases List.mem_cons.1 hx with rfl | hx
   ·rw [stand_self]; exact Int.le_refl 0
   ·exact sorted_ge hp x hx
  unfold sweepL
  rw [hd]
  obtain ⟨o,k⟩:=go_open n (e :: r) e.cut false 0 low (by simp) hp hr (hr e (List.mem_cons_self ..)) hge ⟨e,r,rfl,stand_self _⟩ (fun h=>by cases h) (by omega)
  refine ⟨o.norm,fun c=>(k c).trans ?_⟩
  by_cases q:stand c e.cut<0
  ·rw [if_pos q,cov_none fun x hx=>lt_le q (hge x hx)]
   constructor
   ·rintro ⟨g,_⟩; cases g
   ·intro g; omega
  ·rw [if_neg q]; omega
def nextL (n t:Int) (lo:Cut):List Edge→List Sp
 | []=>[]
 | e :: r=>go n e.cut (decide (n≤t)) t lo (e :: r)
theorem sweepL_next (n:Int) (l:List Edge):sweepL n l=nextL n 0 low l:=by cases l <;> rfl
theorem go_like {n:Int} {cut lo:Cut} {was:Bool} {t:Int} {e f:Edge} {r:List Edge} (h:stand cut f.cut=0):go n cut was t lo (e :: f :: r)=go n cut was (t+e.step) lo (f :: r):=by
 rw [go,if_pos h]
def Ends (cut:Cut) (r:List Edge):Prop:=r=[]∨∃ f q,r=f :: q∧stand cut f.cut≠0
theorem go_open_ {n:Int} {cut lo:Cut} {t:Int} {e:Edge} {r:List Edge} (h:Ends cut r) (h1:n≤t+e.step):go n cut false t lo (e :: r)=nextL n (t+e.step) cut r:=by
 rcases h with rfl | ⟨f,q,rfl,h⟩
 ·rw [go,if_neg (by rintro ⟨g,_⟩; cases g)]; rfl
 ·rw [go,if_neg h,if_pos ⟨h1,rfl⟩]; unfold nextL; rw [decide_eq_true h1]
theorem go_shut {n:Int} {cut lo:Cut} {t:Int} {e:Edge} {r:List Edge} (h:Ends cut r) (h1:¬ n≤t+e.step):go n cut true t lo (e :: r)=⟨lo,cut⟩ :: nextL n (t+e.step) lo r:=by
 rcases h with rfl | ⟨f,q,rfl,h⟩
 ·rw [go,if_pos ⟨rfl,h1⟩]; rfl
 ·rw [go,if_neg h,if_neg (fun g=>h1 g.1),if_pos ⟨rfl,h1⟩]; unfold nextL; rw [decide_eq_false h1]
theorem go_same {n:Int} {cut lo:Cut} {was:Bool} {t:Int} {e:Edge} {r:List Edge} (h:Ends cut r) (h1:decide (n≤t+e.step)=was):go n cut was t lo (e :: r)=nextL n (t+e.step) lo r:=by
 have h2:¬ (was=true∧¬ n≤t+e.step):=by rintro ⟨rfl,g⟩; exact g (of_decide_eq_true h1)
 have h3:¬ (n≤t+e.step∧was=false):=by rintro ⟨g,rfl⟩; exact of_decide_eq_false h1 g
 rcases h with rfl | ⟨f,q,rfl,h⟩
 ·rw [go,if_neg h2]; rfl
 ·rw [go,if_neg h,if_neg h3,if_neg h2]; unfold nextL; rw [h1]
end Go.Proofs.YtgfbflnhjpbceaaGreatDoor.Span
namespace Go.Proofs.YtgfbflnhjpbceaaGreatDoor.Range
open Go.RowKit Num Ident Semver

structure Keep (w w':World):Prop where
 size:w.heap.size≤w'.heap.size
 cell:∀ g o v,w.cell? ⟨g,o,none⟩=some v→((∀ x,v≠.int .i64 x)∨(w.cell? ⟨g,o+1,none⟩).isSome=true)→w'.cell? ⟨g,o,none⟩=some v
theorem block_lt {w:World} {g o:Nat} {v:Value} (h:w.cell? ⟨g,o,none⟩=some v):g<w.heap.size:=World.block_lt_of_cell? w _ h
theorem Keep.of_below {w w':World} (h:Below w.heap.size w w'):Keep w w' :=
 ⟨h.size,fun g o _ hc _=>(h.cell (p:=⟨g,o,none⟩) (block_lt hc)).trans hc⟩

structure Rd (w:World) (b:Nat) (A:Option Addr) (n c p:Nat):Prop where
 lt:b<w.heap.size
 open_:∀ o,w.frozen? ⟨b,o,none⟩=false
 row:w.cell? ⟨b,0,none⟩=some (.slice A n c)
 at_:w.cell? ⟨b,1,none⟩=some (.int .i64 p)
 end_:w.cell? ⟨b,2,none⟩=none
structure Moved (b:Nat) (w w':World):Prop where
 os:w'.os=w.os
 tape:w'.tape=w.tape
 output:w'.output=w.output
 size:w.heap.size≤w'.heap.size
 block:∀ k,k<w.heap.size→k≠b→w'.heap[k]?=w.heap[k]?
 cell:∀ o,o≠1→w'.cell? ⟨b,o,none⟩=w.cell? ⟨b,o,none⟩
 frozen:∀ o,w'.frozen? ⟨b,o,none⟩=w.frozen? ⟨b,o,none⟩
theorem Moved.refl (b:Nat) (w:World):Moved b w w:=⟨rfl,rfl,rfl,Nat.le_refl _,fun _ _ _=>rfl,fun _ _=>rfl,fun _=>rfl⟩
theorem Moved.trans {b:Nat} {u v w:World} (h:Moved b u v) (k:Moved b v w):Moved b u w :=
 ⟨k.os.trans h.os,k.tape.trans h.tape,k.output.trans h.output,Nat.le_trans h.size k.size,fun i hi hb=>(k.block i (Nat.lt_of_lt_of_le hi h.size) hb).trans (h.block i hi hb),fun o ho=>(k.cell o ho).trans (h.cell o ho),fun o=>(k.frozen o).trans (h.frozen o)⟩
theorem Moved.below {b B:Nat} {u v w:World} (h:Moved b u v) (k:Below B v w) (hB:u.heap.size≤B) (hb:b<u.heap.size):Moved b u w :=
 ⟨k.os.trans h.os,k.tape.trans h.tape,k.output.trans h.output,Nat.le_trans h.size k.size,fun i hi hne=>(k.block i (Nat.lt_of_lt_of_le hi hB)).trans (h.block i hi hne),
  fun o ho=>(k.cell (p:=⟨b,o,none⟩) (Nat.lt_of_lt_of_le hb hB)).trans (h.cell o ho),fun o=>(k.frozen (p:=⟨b,o,none⟩) (Nat.lt_of_lt_of_le hb hB)).trans (h.frozen o)⟩
theorem Moved.alloc {b:Nat} {u v:World} (h:Moved b u v) (hb:b<u.heap.size) (o:Obj):Moved b u (v.alloc o):=h.below ((Below.refl _ _).alloc h.size o) (Nat.le_refl _) hb
theorem Moved.set {b:Nat} {u v:World} (h:Moved b u v) (hb:b<u.heap.size) {p:Addr} (hp:u.heap.size≤p.block) (x:Value):Moved b u (v.setCell p x):=h.below ((Below.refl _ _).setCell hp x) (Nat.le_refl _) hb
theorem Moved.below_of {b:Nat} {u v:World} (h:Moved b u v) (hb:b≤u.heap.size):Below b u v:=⟨h.os,h.tape,h.output,h.size,fun k hk=>h.block k (by omega) (by omega)⟩
theorem Rd.kept {w w':World} {b:Nat} {A:Option Addr} {n c p:Nat} (h:Rd w b A n c p) {B:Nat} (k:Below B w w') (hB:b<B):Rd w' b A n c p :=
 ⟨Nat.lt_of_lt_of_le h.lt k.size,fun o=>(k.frozen (p:=⟨b,o,none⟩) hB).trans (h.open_ o),(k.cell (p:=⟨b,0,none⟩) hB).trans h.row,(k.cell (p:=⟨b,1,none⟩) hB).trans h.at_,(k.cell (p:=⟨b,2,none⟩) hB).trans h.end_⟩
theorem Rd.alloc {w:World} {b:Nat} {A:Option Addr} {n c p:Nat} (h:Rd w b A n c p) (o:Obj):Rd (w.alloc o) b A n c p:=h.kept ((Below.refl w.heap.size w).alloc (Nat.le_refl _) o) h.lt
theorem Rd.set {w:World} {b:Nat} {A:Option Addr} {n c p:Nat} (h:Rd w b A n c p) {q:Addr} (hq:b<q.block) (x:Value):Rd (w.setCell q x) b A n c p:=h.kept ((Below.refl (b+1) w).setCell hq x) (Nat.lt_succ_self _)
theorem Rd.move {w:World} {b:Nat} {A:Option Addr} {n c p:Nat} (h:Rd w b A n c p) (q:Nat):Rd (w.setCell ⟨b,1,none⟩ (.int .i64 q)) b A n c q:=by
 refine ⟨by simpa using h.lt,fun o=>by simp [go_sem,h.open_],?_,?_,?_⟩
 ·rw [cell_beside _ _ _ _ _ (by omega)]; exact h.row
 ·exact World.cell?_setCell_same _ _ _ h.at_
 ·rw [cell_beside _ _ _ _ _ (by omega)]; exact h.end_
theorem Moved.at_ {w:World} {b:Nat} (x:Value):Moved b w (w.setCell ⟨b,1,none⟩ x) :=
 ⟨rfl,rfl,rfl,by simp,fun k _ hk=>Below.heap_setCell _ _ _ _ hk,fun o ho=>cell_beside _ _ _ _ _ (fun e=>ho e.symm),fun o=>by simp [go_sem]⟩
theorem Moved.move {u w:World} {b:Nat} (h:Moved b u w) (x:Value):Moved b u (w.setCell ⟨b,1,none⟩ x):=h.trans (Moved.at_ x)
theorem Rd.keep {w w':World} {b:Nat} {A:Option Addr} {n c p:Nat} (h:Rd w b A n c p) (k:Moved b w w'):Keep w w':=by
 refine ⟨k.size,fun g o v hc hv=>?_⟩
 by_cases hg:g=b
 ·subst hg
  by_cases ho:o=1
  ·subst ho
   rcases hv with hv | hv
   ·rw [h.at_] at hc
    injection hc with hc
    exact absurd hc.symm (hv _)
   ·rw [h.end_] at hv; cases hv
  ·rw [k.cell o ho]; exact hc
 ·exact (World.cell?_of_block (w:=w) (a:=⟨g,o,none⟩) (k.block g (block_lt hc) hg)).trans hc
theorem Rd.drewN {w:World} {b:Nat} {A:Option Addr} {n c p:Nat} (h:Rd w b A n c p) (k:Nat):Rd (w.drewN k) b A n c p:=⟨h.lt,h.open_,h.row,h.at_,h.end_⟩
theorem Rd.drew {w:World} {b:Nat} {A:Option Addr} {n c p:Nat} (h:Rd w b A n c p):Rd w.drew b A n c p:=⟨h.lt,h.open_,h.row,h.at_,h.end_⟩
theorem Moved.drewN {b:Nat} {u w:World} (h:Moved b u w) (k:Nat):Moved b u (w.drewN k):=⟨h.os,h.tape,h.output,h.size,h.block,h.cell,h.frozen⟩
theorem Moved.drew {b:Nat} {u w:World} (h:Moved b u w):Moved b u w.drew:=⟨h.os,h.tape,h.output,h.size,h.block,h.cell,h.frozen⟩
theorem Keep.drew (w:World):Keep w w.drew:=⟨Nat.le_refl _,fun _ _ _ h _=>h⟩
theorem row_keep {w w':World} {A:Option Addr} {n:Nat} {l:List UInt8} (h:Row w A n l) (k:Keep w w'):Row w' A n l:=by
 refine ⟨h.1,h.2.1,fun h0=>?_⟩
 obtain ⟨b,o,e,hlt,hc⟩:=h.2.2 h0
 exact ⟨b,o,e,Nat.lt_of_lt_of_le hlt k.size,fun j hj=>k.cell _ _ _ (hc j hj) (.inl fun x e=>by injection e with e _; cases e)⟩

structure KeepS (S:Nat→Prop) (w w':World):Prop where
 size:w.heap.size≤w'.heap.size
 cell:∀ g o v,S g→w.cell? ⟨g,o,none⟩=some v→w'.cell? ⟨g,o,none⟩=some v
theorem KeepS.of_below {w w':World} {S:Nat→Prop} (h:Below w.heap.size w w'):KeepS S w w':=⟨h.size,fun g o _ _ hc=>(h.cell (p:=⟨g,o,none⟩) (block_lt hc)).trans hc⟩
theorem KeepS.trans {S:Nat→Prop} {u v w:World} (h:KeepS S u v) (k:KeepS S v w):KeepS S u w:=⟨Nat.le_trans h.size k.size,fun g o x hg hc=>k.cell g o x hg (h.cell g o x hg hc)⟩
theorem KeepS.alloc {S:Nat→Prop} (w:World) (o:Obj):KeepS S w (w.alloc o):=KeepS.of_below ((Below.refl _ _).alloc (Nat.le_refl _) o)
theorem KeepS.set {S:Nat→Prop} {w:World} {g o:Nat} (hg:¬ S g) (v:Value):KeepS S w (w.setCell ⟨g,o,none⟩ v):=by
 refine ⟨by simp,fun g' o' x hg' hc=>?_⟩
 rw [World.cell?_setCell_other _ _ _ _ (by intro e; injection e with e _; rw [← e] at hg'; exact hg hg')]; exact hc
theorem KeepS.moved {S:Nat→Prop} {w w':World} {b:Nat} (k:Moved b w w') (hb:¬ S b):KeepS S w w' :=
 ⟨k.size,fun g o _ hg hc=>(World.cell?_of_block (w:=w) (a:=⟨g,o,none⟩) (k.block g (block_lt hc) (fun e=>hb (e ▸ hg)))).trans hc⟩
theorem KeepS.grown {S:Nat→Prop} {w w':World} {row:Option Nat} (k:w.grownBy w' row) (hb:∀ g,S g→some g≠row):KeepS S w w' :=
 ⟨k.size,fun g o _ hg hc=>(World.cell?_of_block (w:=w) (a:=⟨g,o,none⟩) (k.block g (block_lt hc) (hb g hg))).trans hc⟩
def InS (S:Nat→Prop) (A:Option Addr) (n:Nat):Prop:=0<n→∃ b o,A=some ⟨b,o,none⟩∧S b
theorem InS.none_ (S:Nat→Prop) (A:Option Addr):InS S A 0:=fun h=>absurd h (Nat.lt_irrefl _)
theorem srow_keepS {w w':World} {S:Nat→Prop} {A:Option Addr} {n:Nat} {xs:List (List UInt8)} (h:SRow w A n xs) (k:KeepS S w w') (hs:InS S A n):SRow w' A n xs:=by
 refine ⟨h.1,fun h0=>?_⟩
 obtain ⟨b,o,e,hlt,hc⟩:=h.2 h0
 obtain ⟨b',o',e',hb⟩:=hs h0
 rw [e] at e'
 injection e' with e'
 injection e' with e1 e2
 subst e1
 exact ⟨b,o,e,Nat.lt_of_lt_of_le hlt k.size,fun j hj=>k.cell _ _ _ hb (hc j hj)⟩
theorem InS.mono {S S':Nat→Prop} {w:World} {A:Option Addr} {n:Nat} {xs:List (List UInt8)} (h:InS S A n) (hr:SRow w A n xs) (hS:∀ b,S b→b<w.heap.size→S' b):InS S' A n:=fun h0=>by
 obtain ⟨b,o,e,hb⟩:=h h0
 obtain ⟨b',o',e',hlt,_⟩:=hr.2 h0
 rw [e] at e'
 injection e' with e'
 injection e' with e1 e2
 subst e1
 exact ⟨b,o,e,hS b hb hlt⟩
structure FitV (v:Ver):Prop where
 a:v.a<18446744073709551616
 b:v.b<18446744073709551616
 c:v.c<18446744073709551616
 pre:v.pre.length≤maxLen
 build:v.build.length≤maxLen
 pres:∀ x ∈ v.pre,x.length≤maxLen
 builds:∀ x ∈ v.build,x.length≤maxLen
theorem FitV.none:FitV noVer:=⟨by decide,by decide,by decide,Nat.zero_le _,Nat.zero_le _,(fun x h=>by cases h),(fun x h=>by cases h)⟩
structure RV where
 kind:Int
 v:Ver
 A:Option Addr
 c:Nat
 B:Option Addr
 d:Nat
 L:Option Addr
 n:Nat
 e:Nat
instance:Coe RV Value:=⟨fun x=>.agg #[.int .i64 x.kind,.int .u64 x.v.a,.int .u64 x.v.b,.int .u64 x.v.c,.slice x.A x.v.pre.length x.c,.slice x.B x.v.build.length x.d,.slice x.L x.n x.e]⟩
instance:Coe RV Obj:=⟨fun x=>.cells #[.int .i64 x.kind,.int .u64 x.v.a,.int .u64 x.v.b,.int .u64 x.v.c,.slice x.A x.v.pre.length x.c,.slice x.B x.v.build.length x.d,.slice x.L x.n x.e] 28⟩
instance:Inhabited RV:=⟨⟨0,noVer,none,0,none,0,none,0,0⟩⟩
def RV.vals (x:RV):List Value:=[.int .i64 x.kind,.int .u64 x.v.a,.int .u64 x.v.b,.int .u64 x.v.c,.slice x.A x.v.pre.length x.c,.slice x.B x.v.build.length x.d,.slice x.L x.n x.e]
theorem rv_len (x:RV):x.vals.length=7:=rfl
theorem rv_one (x:RV):∀ u ∈ x.vals,u.oneCell'=true:=by
 intro u hu; simp only [RV.vals,List.mem_cons,List.mem_nil_iff,or_false] at hu
 rcases hu with rfl | rfl | rfl | rfl | rfl | rfl | rfl <;> rfl
def CellsAt (w:World) (b o:Nat) (x:RV):Prop:=∀ i u,x.vals[i]?=some u→w.cell? ⟨b,o+i,none⟩=some u
theorem CellsAt.keep {w w':World} {S:Nat→Prop} {b o:Nat} {x:RV} (h:CellsAt w b o x) (k:KeepS S w w') (hb:S b):CellsAt w' b o x:=fun i u hu=>k.cell _ _ _ hb (h i u hu)
theorem CellsAt.lt {w:World} {b o:Nat} {x:RV} (h:CellsAt w b o x):b<w.heap.size:=block_lt (h 0 _ rfl)
inductive Lies (w:World) (S:Nat→Prop):Rng→RV→Prop
 | mk (x:RV) (l:List Rng) (f:Nat→RV) (hn:x.n=l.length) (he:x.n≤x.e) (pre:SRow w x.A x.v.pre.length x.v.pre) (build:SRow w x.B x.v.build.length x.v.build) (ip:InS S x.A x.v.pre.length) (ib:InS S x.B x.v.build.length) (cp:x.v.pre.length≤x.c) (cb:x.v.build.length≤x.d)
   (fit:FitV x.v) (nil:x.L=none→x.e=0)
   (cells:0<x.n→∃ b o,x.L=some ⟨b,o,none⟩∧S b∧∀ j,j<x.n→CellsAt w b (o+j * 7) (f j)) (subs:∀ j,j<x.n→Lies w S (l.getD j noRng) (f j)):Lies w S (.mk x.kind x.v l) x
theorem Lies.keep {w w':World} {S:Nat→Prop} {r:Rng} {x:RV} (h:Lies w S r x) (k:KeepS S w w'):Lies w' S r x:=by
 induction h with
 | mk x l f hn he pre build ip ib cp cb fit nil cells _ ih =>
  refine Lies.mk x l f hn he (srow_keepS pre k ip) (srow_keepS build k ib) ip ib cp cb fit nil (fun h0=>?_) ih
  obtain ⟨b,o,e,hb,hc⟩:=cells h0
  exact ⟨b,o,e,hb,fun j hj=>(hc j hj).keep k hb⟩
theorem Lies.mono {w:World} {S S':Nat→Prop} {r:Rng} {x:RV} (h:Lies w S r x) (hS:∀ b,S b→b<w.heap.size→S' b):Lies w S' r x:=by
 induction h with
 | mk x l f hn he pre build ip ib cp cb fit nil cells _ ih =>
  refine Lies.mk x l f hn he pre build (ip.mono pre hS) (ib.mono build hS) cp cb fit nil (fun h0=>?_) ih
  obtain ⟨b,o,e,hb,hc⟩:=cells h0
  exact ⟨b,o,e,hS b hb (hc 0 h0).lt,hc⟩
def RgRow (w:World) (S:Nat→Prop) (L:Option Addr) (n:Nat) (l:List Rng):Prop :=
 ∃ f:Nat→RV,l.length=n∧(0<n→∃ b o,L=some ⟨b,o,none⟩∧S b∧∀ j,j<n→CellsAt w b (o+j * 7) (f j))∧∀ j,j<n→Lies w S (l.getD j noRng) (f j)
theorem RgRow.keep {w w':World} {S:Nat→Prop} {L:Option Addr} {n:Nat} {l:List Rng} (h:RgRow w S L n l) (k:KeepS S w w'):RgRow w' S L n l:=by
 obtain ⟨f,h1,h2,h3⟩:=h
 refine ⟨f,h1,fun h0=>?_,fun j hj=>(h3 j hj).keep k⟩
 obtain ⟨b,o,e,hb,hc⟩:=h2 h0
 exact ⟨b,o,e,hb,fun j hj=>(hc j hj).keep k hb⟩
structure Says (w:World) (S:Nat→Prop) (r:Rng) (x:RV):Prop where
 kind:r.kind=x.kind
 ver:r.ver=x.v
 pre:SRow w x.A x.v.pre.length x.v.pre
 build:SRow w x.B x.v.build.length x.v.build
 ip:InS S x.A x.v.pre.length
 ib:InS S x.B x.v.build.length
 cp:x.v.pre.length≤x.c
 cb:x.v.build.length≤x.d
 fit:FitV x.v
 nil:x.L=none→x.e=0
 cap:x.n≤x.e
 subs:RgRow w S x.L x.n r.subs
theorem Lies.says {w:World} {S:Nat→Prop} {r:Rng} {x:RV} (h:Lies w S r x):Says w S r x:=by
 cases h with
 | mk x l f hn he pre build ip ib cp cb fit nil cells subs=>exact ⟨rfl,rfl,pre,build,ip,ib,cp,cb,fit,nil,he,⟨f,hn.symm,cells,subs⟩⟩
theorem Lies.version {w:World} {S:Nat→Prop} (kind:Int) (v:Ver) (A:Option Addr) (c:Nat) (B:Option Addr) (d:Nat) (pre:SRow w A v.pre.length v.pre) (build:SRow w B v.build.length v.build) (ip:InS S A v.pre.length) (ib:InS S B v.build.length) (cp:v.pre.length≤c) (cb:v.build.length≤d) (fit:FitV v) :
  Lies w S (.mk kind v []) ⟨kind,v,A,c,B,d,none,0,0⟩ :=
 Lies.mk ⟨kind,v,A,c,B,d,none,0,0⟩ [] (fun _=>default) rfl (Nat.le_refl _) pre build ip ib cp cb fit (fun _=>rfl) (fun h=>absurd h (Nat.lt_irrefl _)) (fun _ hj=>absurd hj (Nat.not_lt_zero _))
def zeroRV (kind:Int):RV:=⟨kind,noVer,none,0,none,0,none,0,0⟩
theorem Lies.zero (w:World) (S:Nat→Prop) (kind:Int):Lies w S (.mk kind noVer []) (zeroRV kind) :=
 Lies.version kind noVer none 0 none 0 (SRow.none_ _ _) (SRow.none_ _ _) (InS.none_ _ _) (InS.none_ _ _) (Nat.le_refl _) (Nat.le_refl _) FitV.none
theorem Lies.many {w:World} {S:Nat→Prop} (kind:Int) {L:Option Addr} {n e:Nat} {l:List Rng} (h:RgRow w S L n l) (he:n≤e) (nil:L=none→e=0):Lies w S (.mk kind noVer l) ⟨kind,noVer,none,0,none,0,L,n,e⟩:=by
 obtain ⟨f,h1,h2,h3⟩:=h
 exact Lies.mk ⟨kind,noVer,none,0,none,0,L,n,e⟩ l f h1.symm he (SRow.none_ _ _) (SRow.none_ _ _) (InS.none_ _ _) (InS.none_ _ _) (Nat.le_refl _) (Nat.le_refl _) FitV.none nil h2 h3
def RV.agg (x:RV):Value:=.agg #[x.kind,x.v.a,x.v.b,x.v.c,.slice x.A x.v.pre.length x.c,.slice x.B x.v.build.length x.d,.slice x.L x.n x.e]
theorem CellsAt.cells {w:World} {b o:Nat} {x:RV} (h:CellsAt w b o x):w.cell? ⟨b,o,none⟩=some (.int .i64 x.kind)∧w.cell? ⟨b,o+1,none⟩=some (.int .u64 x.v.a)∧w.cell? ⟨b,o+2,none⟩=some (.int .u64 x.v.b)∧w.cell? ⟨b,o+3,none⟩=some (.int .u64 x.v.c)∧w.cell? ⟨b,o+4,none⟩=some (.slice x.A x.v.pre.length x.c)∧w.cell? ⟨b,o+5,none⟩=some (.slice x.B x.v.build.length x.d)∧w.cell? ⟨b,o+6,none⟩=some (.slice x.L x.n x.e) :=
 ⟨h 0 _ rfl,h 1 _ rfl,h 2 _ rfl,h 3 _ rfl,h 4 _ rfl,h 5 _ rfl,h 6 _ rfl⟩
theorem CellsAt.of {w:World} {b o:Nat} {x:RV} (c0:w.cell? ⟨b,o,none⟩=some (.int .i64 x.kind)) (c1:w.cell? ⟨b,o+1,none⟩=some (.int .u64 x.v.a)) (c2:w.cell? ⟨b,o+2,none⟩=some (.int .u64 x.v.b)) (c3:w.cell? ⟨b,o+3,none⟩=some (.int .u64 x.v.c)) (c4:w.cell? ⟨b,o+4,none⟩=some (.slice x.A x.v.pre.length x.c)) (c5:w.cell? ⟨b,o+5,none⟩=some (.slice x.B x.v.build.length x.d)) (c6:w.cell? ⟨b,o+6,none⟩=some (.slice x.L x.n x.e)):CellsAt w b o x:=by
 intro i u hu
 have hi:i<7:=(List.getElem?_eq_some_iff.1 hu).1
 have e:∀ v,x.vals[i]?=some v→v=u:=fun v hv=>by rw [hv] at hu; injection hu
 match i,hi with
 | 0,_=>rw [← e _ rfl]; exact c0
 | 1,_=>rw [← e _ rfl]; exact c1
 | 2,_=>rw [← e _ rfl]; exact c2
 | 3,_=>rw [← e _ rfl]; exact c3
 | 4,_=>rw [← e _ rfl]; exact c4
 | 5,_=>rw [← e _ rfl]; exact c5
 | 6,_=>rw [← e _ rfl]; exact c6
theorem RgRow.of_own {w:World} {S:Nat→Prop} {base:Nat} {v:Value} {n:Nat} {xs:List RV} {l:List Rng} (h:w.ownsRow base 28 7 v n (xs.flatMap RV.vals)) (hB:∀ g,base≤g→S g) (hx:xs.length=n) (hl:l.length=n) (hs:∀ j,j<n→Lies w S (l.getD j noRng) (xs.getD j default)) :
  ∃ L e,v=.slice L n e∧n≤e∧(L=none→e=0)∧RgRow w S L n l:=by
 obtain ⟨L,e,h1,h2,h3,h4⟩:=own_cells rv_len h hx
 refine ⟨L,e,h1,h2,h3,fun j=>xs.getD j default,hl,fun h0=>?_,hs⟩
 obtain ⟨g,e1,hg,_,_,hc⟩:=h4 h0
 exact ⟨g,0,e1,hB g hg,fun j hj i u hu=>hc j hj i u hu⟩
structure Pl (l:List UInt8) (p:Nat) (s:List UInt8):Prop where
 le:p≤l.length
 eq:s=l.drop p
theorem Pl.len {l s:List UInt8} {p:Nat} (h:Pl l p s):s.length=l.length - p:=by rw [h.eq,List.length_drop]
theorem Pl.drop {l s:List UInt8} {p k:Nat} (h:Pl l p s) (hk:p+k≤l.length):Pl l (p+k) (s.drop k):=⟨hk,by rw [h.eq,List.drop_drop]⟩
def RAt (W:World) (g:Nat) (x:RV):Prop:=At7 W g x.kind x.v.a x.v.b x.v.c (.slice x.A x.v.pre.length x.c) (.slice x.B x.v.build.length x.d) (.slice x.L x.n x.e)
theorem RAt.new (w:World) (t:TypeId) (x:RV):RAt (w.alloc (.cells #[x.kind,x.v.a,x.v.b,x.v.c,.slice x.A x.v.pre.length x.c,.slice x.B x.v.build.length x.d,.slice x.L x.n x.e] t)) w.heap.size x:=At7.new w t _ _ _ _ _ _ _
theorem RAt.kept {W W':World} {g B:Nat} {x:RV} (h:RAt W g x) (hb:Below B W W') (hB:g<B):RAt W' g x:=At7.kept h hb hB
theorem At7.moved {W W':World} {b B:Nat} {u0 u1 u2 u3 u4 u5 u6:Value} (h:At7 W B u0 u1 u2 u3 u4 u5 u6) (hm:Moved b W W') (hne:B≠b):At7 W' B u0 u1 u2 u3 u4 u5 u6:=by
 obtain ⟨h1,h2,c0,c1,c2,c3,c4,c5,c6⟩:=h
 have k:=hm.block B h1 hne
 have kc:∀ o,W'.cell? ⟨B,o,none⟩=W.cell? ⟨B,o,none⟩:=fun o=>World.cell?_of_block (w:=W) (a:=⟨B,o,none⟩) k
 exact ⟨Nat.lt_of_lt_of_le h1 hm.size,fun o=>(World.frozen?_of_block (w:=W) (a:=⟨B,o,none⟩) k).trans (h2 o),(kc 0).trans c0,(kc 1).trans c1,(kc 2).trans c2,(kc 3).trans c3,(kc 4).trans c4,(kc 5).trans c5,(kc 6).trans c6⟩
theorem RAt.moved {W W':World} {b g:Nat} {x:RV} (h:RAt W g x) (hm:Moved b W W') (hne:g≠b):RAt W' g x:=At7.moved h hm hne
theorem At7.grown {w w':World} {row:Option Nat} {g:Nat} {u0 u1 u2 u3 u4 u5 u6:Value} (h:At7 w g u0 u1 u2 u3 u4 u5 u6) (hg:w.grownBy w' row) (hne:some g≠row):At7 w' g u0 u1 u2 u3 u4 u5 u6:=by
 obtain ⟨h1,h2,c0,c1,c2,c3,c4,c5,c6⟩:=h
 have k:=hg.block g h1 hne
 have kc:∀ o,w'.cell? ⟨g,o,none⟩=w.cell? ⟨g,o,none⟩:=fun o=>World.cell?_of_block (w:=w) (a:=⟨g,o,none⟩) k
 exact ⟨Nat.lt_of_lt_of_le h1 hg.size,fun o=>(World.frozen?_of_block (w:=w) (a:=⟨g,o,none⟩) k).trans (h2 o),(kc 0).trans c0,(kc 1).trans c1,(kc 2).trans c2,(kc 3).trans c3,(kc 4).trans c4,(kc 5).trans c5,(kc 6).trans c6⟩
theorem RAt.grown {w w':World} {row:Option Nat} {g:Nat} {x:RV} (h:RAt w g x) (hg:w.grownBy w' row) (hne:some g≠row):RAt w' g x:=At7.grown h hg hne
theorem Rd.grown {w w':World} {row:Option Nat} {b:Nat} {A:Option Addr} {n c p:Nat} (h:Rd w b A n c p) (hg:w.grownBy w' row) (hne:some b≠row):Rd w' b A n c p:=by
 have k:=hg.block b h.lt hne
 have kc:∀ o,w'.cell? ⟨b,o,none⟩=w.cell? ⟨b,o,none⟩:=fun o=>World.cell?_of_block (w:=w) (a:=⟨b,o,none⟩) k
 exact ⟨Nat.lt_of_lt_of_le h.lt hg.size,fun o=>(World.frozen?_of_block (w:=w) (a:=⟨b,o,none⟩) k).trans (h.open_ o),(kc 0).trans h.row,(kc 1).trans h.at_,(kc 2).trans h.end_⟩
theorem Moved.grown {u w w':World} {row:Option Nat} {b:Nat} (h:Moved b u w) (hg:w.grownBy w' row) (hb:b<u.heap.size) (hr:∀ g,row=some g→u.heap.size≤g):Moved b u w' :=
 h.below ((Below.refl _ _).grown hg h.size hr) (Nat.le_refl _) hb
def setR (W:World) (g:Nat) (x:RV):World:=(((((((W.setCell ⟨g,0,none⟩ x.kind).setCell ⟨g,1,none⟩ x.v.a).setCell ⟨g,2,none⟩ x.v.b).setCell ⟨g,3,none⟩ x.v.c).setCell ⟨g,4,none⟩ (.slice x.A x.v.pre.length x.c)).setCell ⟨g,5,none⟩ (.slice x.B x.v.build.length x.d)).setCell ⟨g,6,none⟩ (.slice x.L x.n x.e))
theorem setR_at {W:World} {g:Nat} {x y:RV} (h:RAt W g y):RAt (setR W g x) g x:=by
 obtain ⟨h1,h2,c0,c1,c2,c3,c4,c5,c6⟩:=h
 unfold setR
 refine ⟨by simpa using h1,fun o=>by simp [go_sem,h2],?_,?_,?_,?_,?_,?_,?_⟩ <;> simp [go_sem,c0,c1,c2,c3,c4,c5,c6]
theorem setR_below {W:World} {g:Nat} (B:Nat) (hB:B≤g) (x:RV):Below B W (setR W g x):=by
 unfold setR
 exact ((((((((Below.refl B W).setCell (p:=⟨g,0,none⟩) hB _).setCell (p:=⟨g,1,none⟩) hB _).setCell (p:=⟨g,2,none⟩) hB _).setCell (p:=⟨g,3,none⟩) hB _).setCell (p:=⟨g,4,none⟩) hB _).setCell (p:=⟨g,5,none⟩) hB _).setCell (p:=⟨g,6,none⟩) hB _)
theorem setR_rd {W:World} {g b:Nat} {A:Option Addr} {n c p:Nat} (h:Rd W b A n c p) (hb:b<g) (x:RV):Rd (setR W g x) b A n c p:=h.kept (setR_below g (Nat.le_refl _) x) hb
theorem setR_moved {W u:World} {g b:Nat} (h:Moved b u W) (hb:b<u.heap.size) (hg:u.heap.size≤g) (x:RV):Moved b u (setR W g x):=h.below (setR_below g (Nat.le_refl _) x) hg hb
theorem setR_keep {W:World} {g:Nat} {S:Nat→Prop} (hg:¬ S g) (x:RV):KeepS S W (setR W g x):=by
 unfold setR
 exact (KeepS.set hg _).trans ((KeepS.set hg _).trans ((KeepS.set hg _).trans ((KeepS.set hg _).trans ((KeepS.set hg _).trans ((KeepS.set hg _).trans (KeepS.set hg _))))))
def From (B:Nat) (g:Nat):Prop:=B≤g
def RgPost (b:Nat) (A:Option Addr) (n c:Nat) (l:List UInt8) (w:World) (t:Out) (e:Ending) (w':World):Prop :=
 ∃ (x:RV) (q:Nat),e=.returned (.tuple #[x.agg,.int .i64 t.1])∧Lies w' (From w.heap.size) t.2.2 x∧Pl l q t.2.1∧Rd w' b A n c q∧Moved b w w'
theorem Lies.from_ {w:World} {B B':Nat} {r:Rng} {x:RV} (h:Lies w (From B) r x) (hB:B'≤B):Lies w (From B') r x:=h.mono fun _ hb _=>Nat.le_trans hB hb
theorem rg_end {b:Nat} {A:Option Addr} {n c:Nat} {l:List UInt8} {w W:World} {f:Nat} {s:List UInt8} {r:Rng} {x:RV} {q:Nat} (hb:b<w.heap.size) (hL:Lies W (From (w.heap.size+1)) r x) (hP:Pl l q s) (hR:Rd W b A n c q) (hM:Moved b w W) :
  RgPost b A n c l w (f,s,r) (.returned (.tuple #[x.agg,.int .i64 f])) (setR W w.heap.size x) :=
 ⟨x,q,rfl,(hL.keep (setR_keep (Nat.not_succ_le_self _) x)).from_ (Nat.le_succ _),hP,setR_rd hR hb x,setR_moved hM hb (Nat.le_refl _) x⟩
end Go.Proofs.YtgfbflnhjpbceaaGreatDoor.Range
