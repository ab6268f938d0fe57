/-
  What the theorem of the last text needs of these: SpSweep, IdGood, IdTexts, SvGood. Conditions: as each theorem states.
-/
import Derived.Test.YtnpjklaaokiikaaGreatDoorPlA1
import Derived.Test.YtnpjklaaokiikaaGreatDoorPlA3
import Derived.Test.YtnpjklaaokiikaaGreatDoorPlA4
import Derived.Test.YtnpjklaaokiikaaGreatDoorPlA5
import Derived.Test.YtnpjklaaokiikaaGreatDoorPlA6
import Derived.StillTailTactics
import Derived.Deep.CutBlock
import Derived.Deep.DeepCutAuto
import Derived.Deep.RegionHeld3
import Derived.Test.YtnpjklaaokiikaaGreatDoorShelfJoin
set_option maxRecDepth 100000
set_option maxHeartbeats 25600000
namespace Go.Proofs.YtnpjklaaokiikaaGreatDoor.Span
open Go.RowKit Num Ident Semver Prec

structure Edge where
 cut:Cut
 step:Int
def cov (l:List Edge) (c:Cut):Int:=(l.map fun e=>if stand e.cut c≤0 then e.step else 0).sum
def total (l:List Edge):Int:=(l.map fun e=>e.step).sum
theorem cov_nil (c:Cut):cov [] c=0:=rfl
theorem cov_cons (e:Edge) (l:List Edge) (c:Cut):cov (e :: l) c=(if stand e.cut c≤0 then e.step else 0)+cov l c:=by unfold cov; rw [List.map_cons,List.sum_cons]
theorem cov_append (l m:List Edge) (c:Cut):cov (l ++ m) c=cov l c+cov m c:=by unfold cov; rw [List.map_append,List.sum_append]
theorem total_cons (e:Edge) (l:List Edge):total (e :: l)=e.step+total l:=by unfold total; rw [List.map_cons,List.sum_cons]
theorem total_append (l m:List Edge):total (l ++ m)=total l+total m:=by unfold total; rw [List.map_append,List.sum_append]
theorem cov_perm {l m:List Edge} (h:l.Perm m) (c:Cut):cov l c=cov m c:=by
 induction h with
 | nil=>rfl
 | cons x _ ih=>rw [cov_cons,cov_cons,ih]
 | swap x y l=>rw [cov_cons,cov_cons,cov_cons,cov_cons]; omega
 | trans _ _ h1 h2=>rw [h1,h2]
theorem total_perm {l m:List Edge} (h:l.Perm m):total l=total m:=by
 induction h with
 | nil=>rfl
 | cons x _ ih=>rw [total_cons,total_cons,ih]
 | swap x y l=>rw [total_cons,total_cons,total_cons,total_cons]; omega
 | trans _ _ h1 h2=>rw [h1,h2]
theorem cov_none {l:List Edge} {c:Cut} (h:∀ e ∈ l,stand c e.cut<0):cov l c=0:=by
 induction l with
 | nil=>rfl
 | cons e l ih =>
  rw [cov_cons,if_neg (lt_not (h e (List.mem_cons_self ..))),ih fun x hx=>h x (List.mem_cons_of_mem _ hx)]; rfl
def edgesOf (l:List Sp) (step:Int):List Edge:=(l.filter cnt).flatMap fun s=>[⟨s.lo,step⟩,⟨s.hi,0 - step⟩]
theorem edgesOf_yes {s:Sp} (l:List Sp) (step:Int) (h:cnt s=true):edgesOf (s :: l) step=⟨s.lo,step⟩ :: ⟨s.hi,0 - step⟩ :: edgesOf l step:=by
 unfold edgesOf; rw [List.filter_cons_of_pos h]; rfl
theorem edgesOf_no {s:Sp} (l:List Sp) (step:Int) (h:cnt s=false):edgesOf (s :: l) step=edgesOf l step:=by
 unfold edgesOf; rw [List.filter_cons_of_neg (by simp [h])]
theorem edgesOf_snoc_yes {s:Sp} (l:List Sp) (step:Int) (h:cnt s=true):edgesOf (l ++ [s]) step=edgesOf l step ++ [⟨s.lo,step⟩,⟨s.hi,0 - step⟩]:=by
 unfold edgesOf; rw [List.filter_append,List.flatMap_append,List.filter_cons_of_pos h]; rfl
theorem edgesOf_snoc_no {s:Sp} (l:List Sp) (step:Int) (h:cnt s=false):edgesOf (l ++ [s]) step=edgesOf l step:=by
 unfold edgesOf; rw [List.filter_append,List.flatMap_append,List.filter_cons_of_neg (by simp [h])]; simp
theorem edgesOf_total (l:List Sp) (step:Int):total (edgesOf l step)=0:=by
 induction l with
 | nil=>rfl
 | cons s l ih =>
  cases h:cnt s
  ·rw [edgesOf_no l step h]; exact ih
  ·rw [edgesOf_yes l step h,total_cons,total_cons,ih]; show step+(0 - step+0)=0; omega
theorem edgesOf_right (l:List Sp) (step:Int):∀ e ∈ edgesOf l step,right e.cut=true:=by
 induction l with
 | nil=>intro e he; cases he
 | cons s l ih =>
  intro e he
  cases h:cnt s
  ·rw [edgesOf_no l step h] at he; exact ih e he
  ·rw [edgesOf_yes l step h] at he
   have hc:=(cnt_iff s).1 h
   rcases List.mem_cons.1 he with rfl | he
   ·exact hc.1
   ·rcases List.mem_cons.1 he with rfl | he
    ·exact hc.2.1
    ·exact ih e he
theorem edgesOf_step (l:List Sp) (step:Int):∀ e ∈ edgesOf l step,e.step=step∨e.step=0 - step:=by
 induction l with
 | nil=>intro e he; cases he
 | cons s l ih =>
  intro e he
  cases h:cnt s
  ·rw [edgesOf_no l step h] at he; exact ih e he
  ·rw [edgesOf_yes l step h] at he
   rcases List.mem_cons.1 he with rfl | he
   ·exact .inl rfl
   ·rcases List.mem_cons.1 he with rfl | he
    ·exact .inr rfl
    ·exact ih e he
def times (l:List Sp) (c:Cut):Nat:=(l.filter fun s=>cnt s && (decide (stand s.lo c≤0) && decide (stand c s.hi<0))).length
theorem times_yes {s:Sp} (l:List Sp) {c:Cut} (h:cnt s=true) (h1:inOne s c):times (s :: l) c=times l c+1:=by
 unfold times; rw [List.filter_cons_of_pos (by simp [h,h1.1,h1.2])]; rfl
theorem times_no {s:Sp} (l:List Sp) {c:Cut} (h:¬ (cnt s=true∧inOne s c)):times (s :: l) c=times l c:=by
 unfold times; rw [List.filter_cons_of_neg (by intro k; simp at k; exact h ⟨k.1,k.2.1,k.2.2⟩)]
theorem edgesOf_cov (l:List Sp) (step:Int) (c:Cut):cov (edgesOf l step) c=step * (times l c:Int):=by
 induction l with
 | nil=>simp [edgesOf,times,cov]
 | cons s l ih =>
  cases h:cnt s
  ·rw [edgesOf_no l step h,times_no l (fun k=>by rw [h] at k; cases k.1)]; exact ih
  ·rw [edgesOf_yes l step h,cov_cons,cov_cons,ih]
   have hc:=(cnt_iff s).1 h
   show (if stand s.lo c≤0 then step else 0)+((if stand s.hi c≤0 then 0 - step else 0)+_)=_
   by_cases h1:stand s.lo c≤0
   ·by_cases h2:stand s.hi c≤0
    ·rw [if_pos h1,if_pos h2,times_no l (fun k=>le_not h2 k.2.2)]; omega
    ·rw [if_pos h1,if_neg h2,times_yes l h ⟨h1,not_le h2⟩,Int.natCast_add,Int.mul_add]
     simp; omega
   ·have h2:¬ stand s.hi c≤0:=fun k=>h1 (le_le (by have:=hc.2.2; omega) k)
    rw [if_neg h1,if_neg h2,times_no l (fun k=>h1 k.2.1)]; omega
theorem times_pos (l:List Sp) (c:Cut):1≤times l c↔inR l c:=by
 induction l with
 | nil =>
  constructor
  ·intro h; simp [times] at h
  ·rintro ⟨s,hs,_⟩; cases hs
 | cons s l ih =>
  by_cases h:cnt s=true∧inOne s c
  ·rw [times_yes l h.1 h.2]
   exact ⟨fun _=>⟨s,List.mem_cons_self ..,h⟩,fun _=>by omega⟩
  ·rw [times_no l h,ih]
   constructor
   ·rintro ⟨t,ht,k⟩; exact ⟨t,List.mem_cons_of_mem _ ht,k⟩
   ·rintro ⟨t,ht,k⟩
    rcases List.mem_cons.1 ht with rfl | ht
    ·exact absurd k h
    ·exact ⟨t,ht,k⟩
theorem Norm.once {l:List Sp} (h:Norm l) (c:Cut):times l c≤1:=by
 induction l with
 | nil=>simp [times]
 | cons s l ih =>
  by_cases k:Span.cnt s=true∧inOne s c
  ·rw [times_yes l k.1 k.2]
   have:¬ 1≤times l c:=by
    rw [times_pos]
    rintro ⟨t,ht,_,i⟩
    exact lt_not (h.ahead t ht) (le_le i.1 (by have:=k.2.2; omega))
   omega
  ·rw [times_no l k]; exact ih h.tail

def go (n:Int):Cut→Bool→Int→Cut→List Edge→List Sp
 | _,_,_,_,[]=>[]
 | cut,was,t,lo,[e] =>
  if was=true∧¬ n≤t+e.step then [⟨lo,cut⟩] else []
 | cut,was,t,lo,e :: f :: r =>
  if stand cut f.cut=0 then go n cut was (t+e.step) lo (f :: r)
  else if n≤t+e.step∧was=false then go n f.cut true (t+e.step) cut (f :: r)
  else if was=true∧¬ n≤t+e.step then ⟨lo,cut⟩ :: go n f.cut false (t+e.step) lo (f :: r)
  else go n f.cut was (t+e.step) lo (f :: r)
def sweepL (n:Int):List Edge→List Sp
 | []=>[]
 | e :: r=>go n e.cut (decide (n≤0)) 0 low (e :: r)

structure Open (cut:Cut) (was:Bool) (lo:Cut) (out:List Sp):Prop where
 norm:Norm out
 yes:was=true→∃ h r,out=⟨lo,h⟩ :: r∧stand cut h≤0∧∀ s ∈ r,stand cut s.lo<0
 no:was=false→∀ s ∈ out,stand cut s.lo≤0

theorem sorted_ge {e:Edge} {r:List Edge} (h:(e :: r).Pairwise fun x y=>stand x.cut y.cut≤0):∀ x ∈ r,stand e.cut x.cut≤0:=(List.pairwise_cons.1 h).1

theorem go_open (n:Int):∀ (l:List Edge) (cut:Cut) (was:Bool) (t:Int) (lo:Cut),l≠[]→(l.Pairwise fun x y=>stand x.cut y.cut≤0)→(∀ e ∈ l,right e.cut=true)→right cut=true →
  (∀ e ∈ l,stand cut e.cut≤0)→(∃ e r,l=e :: r∧stand cut e.cut=0)→(was=true→right lo=true∧stand lo cut<0)→t+total l<n →
  Open cut was lo (go n cut was t lo l)∧∀ c,inS (go n cut was t lo l) c↔(if stand c cut<0 then was=true∧stand lo c≤0 else n≤t+cov l c)
 | [],_,_,_,_,h,_,_,_,_,_,_,_=>absurd rfl h
 | [e],cut,was,t,lo,_,_,_,hc,_,he,hlo,ht=>by
  obtain ⟨e',r',heq,hz⟩:=he
  obtain ⟨rfl,rfl⟩:e=e'∧[]=r':=by injection heq with h1 h2; exact ⟨h1,h2⟩
  have ht2:¬ n≤t+e.step:=by rw [total_cons] at ht; have:total []=0:=rfl; omega
  have hcov:∀ c,¬ stand c cut<0→t+cov [e] c=t+e.step:=fun c h=>by
   rw [cov_cons,cov_nil,if_pos (le_le (by have:=like_flip hz; omega) (not_lt h))]; omega
  unfold go
  cases was with
  | true =>
   rw [if_pos ⟨rfl,ht2⟩]
   obtain ⟨h1,h2⟩:=hlo rfl
   refine ⟨⟨⟨fun s hs=>?_,List.pairwise_singleton _ _⟩,fun _=>⟨cut,[],rfl,by rw [stand_self]; exact Int.le_refl 0,(fun s hs=>by cases hs)⟩,(fun h=>by cases h)⟩,fun c=>?_⟩
   ·rw [List.mem_singleton] at hs; subst hs; exact (cnt_iff _).2 ⟨h1,hc,h2⟩
   ·by_cases k:stand c cut<0
    ·rw [if_pos k]
     constructor
     ·rintro ⟨s,hs,i⟩; rw [List.mem_singleton] at hs; subst hs; exact ⟨rfl,i.1⟩
     ·rintro ⟨_,i⟩; exact ⟨_,List.mem_singleton.2 rfl,i,k⟩
    ·rw [if_neg k,hcov c k]
     constructor
     ·rintro ⟨s,hs,i⟩; rw [List.mem_singleton] at hs; subst hs; exact absurd i.2 k
     ·intro h; exact absurd h ht2
  | false =>
   rw [if_neg (by rintro ⟨h,_⟩; cases h)]
   refine ⟨⟨Norm.nil,(fun h=>by cases h),fun _ s hs=>by cases hs⟩,fun c=>?_⟩
   by_cases k:stand c cut<0
   ·rw [if_pos k]
    constructor
    ·rintro ⟨s,hs,_⟩; cases hs
    ·rintro ⟨h,_⟩; cases h
   ·rw [if_neg k,hcov c k]
    constructor
    ·rintro ⟨s,hs,_⟩; cases hs
    ·intro h; exact absurd h ht2
 | e :: f :: r,cut,was,t,lo,_,hp,hr,hc,hge,he,hlo,ht=>by
  obtain ⟨e',r',heq,hz⟩:=he
  obtain ⟨rfl,rfl⟩:e=e'∧f :: r=r':=by injection heq with h1 h2; exact ⟨h1,h2⟩
  have hp2:=(List.pairwise_cons.1 hp).2
  have hr2:∀ x ∈ f :: r,right x.cut=true:=fun x hx=>hr x (List.mem_cons_of_mem _ hx)
  have ht2:t+e.step+total (f :: r)<n:=by rw [total_cons] at ht; omega
  have hge2:∀ x ∈ f :: r,stand cut x.cut≤0:=fun x hx=>hge x (List.mem_cons_of_mem _ hx)
  have hcov:∀ c,¬ stand c cut<0→t+cov (e :: f :: r) c=t+e.step+cov (f :: r) c:=fun c h=>by
   rw [cov_cons,if_pos (le_le (by have:=like_flip hz; omega) (not_lt h))]; omega
  have hfge:∀ x ∈ f :: r,stand f.cut x.cut≤0:=fun x hx=>by
   rcases List.mem_cons.1 hx with rfl | hx
   ·rw [stand_self]; exact Int.le_refl 0
   ·exact sorted_ge hp2 x hx
  unfold go
  by_cases h0:stand cut f.cut=0
  ·rw [if_pos h0]
   obtain ⟨o,k⟩:=go_open n (f :: r) cut was (t+e.step) lo (by simp) hp2 hr2 hc hge2 ⟨f,r,rfl,h0⟩ hlo ht2
   refine ⟨o,fun c=>(k c).trans ?_⟩
   by_cases q:stand c cut<0
   ·rw [if_pos q,if_pos q]
   ·rw [if_neg q,if_neg q,hcov c q]
  ·rw [if_neg h0]
   have hcf:stand cut f.cut<0:=by have:=hge2 f (List.mem_cons_self ..); omega
   have hfr:=hr2 f (List.mem_cons_self ..)
   have hself:∃ e r',f :: r=e :: r'∧stand f.cut e.cut=0:=⟨f,r,rfl,stand_self _⟩
   have hmid:∀ c,¬ stand c cut<0→stand c f.cut<0→t+e.step+cov (f :: r) c=t+e.step:=fun c _ h=>by
    rw [cov_none fun x hx=>lt_le h (hfge x hx)]; omega
   by_cases h1:n≤t+e.step∧was=false
   ·rw [if_pos h1]
    obtain ⟨h1,rfl⟩:=h1
    obtain ⟨o,k⟩:=go_open n (f :: r) f.cut true (t+e.step) cut (by simp) hp2 hr2 hfr hfge hself (fun _=>⟨hc,hcf⟩) ht2
    obtain ⟨h,q,e1,e2,e3⟩:=o.yes rfl
    refine ⟨⟨o.norm,(fun h=>by cases h),fun _ s hs=>?_⟩,fun c=>(k c).trans ?_⟩
    ·rw [e1] at hs
     rcases List.mem_cons.1 hs with rfl | hs
     ·show stand cut cut≤0; rw [stand_self]; exact Int.le_refl 0
     ·have:=lt_lt hcf (e3 s hs); omega
    ·by_cases q1:stand c cut<0
     ·rw [if_pos q1,if_pos (lt_lt q1 hcf)]
      constructor
      ·rintro ⟨_,g⟩; exact absurd q1 (le_not g)
      ·rintro ⟨g,_⟩; cases g
     ·rw [if_neg q1,hcov c q1]
      by_cases q2:stand c f.cut<0
      ·rw [if_pos q2,hmid c q1 q2]
       exact ⟨fun _=>h1,fun _=>⟨rfl,not_lt q1⟩⟩
      ·rw [if_neg q2]
   ·rw [if_neg h1]
    by_cases h2:was=true∧¬ n≤t+e.step
    ·rw [if_pos h2]
     obtain ⟨rfl,h2⟩:=h2
     obtain ⟨l1,l2⟩:=hlo rfl
     obtain ⟨o,k⟩:=go_open n (f :: r) f.cut false (t+e.step) lo (by simp) hp2 hr2 hfr hfge hself (fun h=>by cases h) ht2
     have hno:=o.no rfl
     refine ⟨⟨⟨fun s hs=>?_,List.pairwise_cons.2 ⟨fun s hs=>?_,o.norm.gap⟩⟩,fun _=>⟨cut,_,rfl,by rw [stand_self]; exact Int.le_refl 0,fun s hs=>lt_le hcf (hno s hs)⟩,fun h=>by cases h⟩,fun c=>?_⟩
     ·rcases List.mem_cons.1 hs with rfl | hs
      ·exact (cnt_iff _).2 ⟨l1,hc,l2⟩
      ·exact o.norm.cnt s hs
     ·exact lt_le hcf (hno s hs)
     ·by_cases q1:stand c cut<0
      ·rw [if_pos q1]
       constructor
       ·rintro ⟨s,hs,i⟩
        rcases List.mem_cons.1 hs with rfl | hs
        ·exact ⟨rfl,i.1⟩
        ·exact absurd (le_le (hno s hs) i.1) (lt_not (lt_lt q1 hcf))
       ·rintro ⟨_,i⟩; exact ⟨_,List.mem_cons_self ..,i,q1⟩
      ·rw [if_neg q1,hcov c q1]
       have step:inS (⟨lo,cut⟩ :: go n f.cut false (t+e.step) lo (f :: r)) c↔inS (go n f.cut false (t+e.step) lo (f :: r)) c:=by
        constructor
        ·rintro ⟨s,hs,i⟩
         rcases List.mem_cons.1 hs with rfl | hs
         ·exact absurd i.2 q1
         ·exact ⟨s,hs,i⟩
        ·rintro ⟨s,hs,i⟩; exact ⟨s,List.mem_cons_of_mem _ hs,i⟩
       refine (step.trans (k c)).trans ?_
       by_cases q2:stand c f.cut<0
       ·rw [if_pos q2,hmid c q1 q2]
        constructor
        ·rintro ⟨g,_⟩; cases g
        ·intro g; exact absurd g h2
       ·rw [if_neg q2]
    ·rw [if_neg h2]
     cases was with
     | true =>
      have h3:n≤t+e.step:=by
       by_cases g:n≤t+e.step
       ·exact g
       ·exact absurd ⟨rfl,g⟩ h2
      obtain ⟨l1,l2⟩:=hlo rfl
      obtain ⟨o,k⟩:=go_open n (f :: r) f.cut true (t+e.step) lo (by simp) hp2 hr2 hfr hfge hself (fun _=>⟨l1,lt_lt l2 hcf⟩) ht2
      obtain ⟨h,q,e1,e2,e3⟩:=o.yes rfl
      refine ⟨⟨o.norm,fun _=>⟨h,q,e1,le_le (by omega) e2,fun s hs=>lt_lt hcf (e3 s hs)⟩,fun h=>by cases h⟩,fun c=>(k c).trans ?_⟩
      by_cases q1:stand c cut<0
      ·rw [if_pos q1,if_pos (lt_lt q1 hcf)]
      ·rw [if_neg q1,hcov c q1]
       by_cases q2:stand c f.cut<0
       ·rw [if_pos q2,hmid c q1 q2]
        exact ⟨fun _=>h3,fun _=>⟨rfl,le_le (by omega) (not_lt q1)⟩⟩
       ·rw [if_neg q2]
     | false =>
      have h3:¬ n≤t+e.step:=fun g=>h1 ⟨g,rfl⟩
      obtain ⟨o,k⟩:=go_open n (f :: r) f.cut false (t+e.step) lo (by simp) hp2 hr2 hfr hfge hself (fun h=>by cases h) ht2
      have hno:=o.no rfl
      refine ⟨⟨o.norm,(fun h=>by cases h),fun _ s hs=>?_⟩,fun c=>(k c).trans ?_⟩
      ·have:=lt_le hcf (hno s hs); omega
      ·by_cases q1:stand c cut<0
       ·rw [if_pos q1,if_pos (lt_lt q1 hcf)]
       ·rw [if_neg q1,hcov c q1]
        by_cases q2:stand c f.cut<0
        ·rw [if_pos q2,hmid c q1 q2]
         constructor
         ·rintro ⟨g,_⟩; cases g
         ·intro g; exact absurd g h3
        ·rw [if_neg q2]
theorem sweep_norm {n:Int} (hn:0<n) {l:List Edge} (hp:l.Pairwise fun x y=>stand x.cut y.cut≤0) (hr:∀ e ∈ l,right e.cut=true) (ht:total l<n) :
  Norm (sweepL n l)∧∀ c,inS (sweepL n l) c↔n≤cov l c:=by
 cases l with
 | nil =>
  refine ⟨Norm.nil,fun c=>⟨(fun ⟨s,hs,_⟩=>by cases hs),fun h=>?_⟩⟩
  rw [cov_nil] at h; omega
 | cons e r =>
  have hd:decide (n≤0)=false:=decide_eq_false (by omega)
  have hge:∀ x ∈ e :: r,stand e.cut x.cut≤0:=fun x hx=>by
   rcases List.mem_cons.1 hx with rfl | hx
   ·rw [stand_self]; exact Int.le_refl 0
   ·exact sorted_ge hp x hx
  unfold sweepL
  rw [hd]
  obtain ⟨o,k⟩:=go_open n (e :: r) e.cut false 0 low (by simp) hp hr (hr e (List.mem_cons_self ..)) hge ⟨e,r,rfl,stand_self _⟩ (fun h=>by cases h) (by omega)
  refine ⟨o.norm,fun c=>(k c).trans ?_⟩
  by_cases q:stand c e.cut<0
  ·rw [if_pos q,cov_none fun x hx=>lt_le q (hge x hx)]
   constructor
   ·rintro ⟨g,_⟩; cases g
   ·intro g; omega
  ·rw [if_neg q]; omega
def nextL (n t:Int) (lo:Cut):List Edge→List Sp
 | []=>[]
 | e :: r=>go n e.cut (decide (n≤t)) t lo (e :: r)
theorem sweepL_next (n:Int) (l:List Edge):sweepL n l=nextL n 0 low l:=by cases l <;> rfl
theorem go_like {n:Int} {cut lo:Cut} {was:Bool} {t:Int} {e f:Edge} {r:List Edge} (h:stand cut f.cut=0):go n cut was t lo (e :: f :: r)=go n cut was (t+e.step) lo (f :: r):=by
 rw [go,if_pos h]
def Ends (cut:Cut) (r:List Edge):Prop:=r=[]∨∃ f q,r=f :: q∧stand cut f.cut≠0
theorem go_open_ {n:Int} {cut lo:Cut} {t:Int} {e:Edge} {r:List Edge} (h:Ends cut r) (h1:n≤t+e.step):go n cut false t lo (e :: r)=nextL n (t+e.step) cut r:=by
 rcases h with rfl | ⟨f,q,rfl,h⟩
 ·rw [go,if_neg (by rintro ⟨g,_⟩; cases g)]; rfl
 ·rw [go,if_neg h,if_pos ⟨h1,rfl⟩]; unfold nextL; rw [decide_eq_true h1]
theorem go_shut {n:Int} {cut lo:Cut} {t:Int} {e:Edge} {r:List Edge} (h:Ends cut r) (h1:¬ n≤t+e.step):go n cut true t lo (e :: r)=⟨lo,cut⟩ :: nextL n (t+e.step) lo r:=by
 rcases h with rfl | ⟨f,q,rfl,h⟩
 ·rw [go,if_pos ⟨rfl,h1⟩]; rfl
 ·rw [go,if_neg h,if_neg (fun g=>h1 g.1),if_pos ⟨rfl,h1⟩]; unfold nextL; rw [decide_eq_false h1]
theorem go_same {n:Int} {cut lo:Cut} {was:Bool} {t:Int} {e:Edge} {r:List Edge} (h:Ends cut r) (h1:decide (n≤t+e.step)=was):go n cut was t lo (e :: r)=nextL n (t+e.step) lo r:=by
 have h2:¬ (was=true∧¬ n≤t+e.step):=by rintro ⟨rfl,g⟩; exact g (of_decide_eq_true h1)
 have h3:¬ (n≤t+e.step∧was=false):=by rintro ⟨g,rfl⟩; exact of_decide_eq_false h1 g
 rcases h with rfl | ⟨f,q,rfl,h⟩
 ·rw [go,if_neg h2]; rfl
 ·rw [go,if_neg h,if_neg h3,if_neg h2]; unfold nextL; rw [h1]
end Go.Proofs.YtnpjklaaokiikaaGreatDoor.Span
namespace Go.Proofs.YtnpjklaaokiikaaGreatDoor.Ident
open Go.RowKit Num

def GoodJ (w:World) (A:Option Addr) (n c:Nat) (pre:Bool) (xs:List (List UInt8)) (a':Act) (w':World):Prop :=
 ∃ (k:Nat) (u6 u7 u8 u9 u10 u11 u12 u13 u14 u15 u16 u17 u18 u19 u20 u21 u22 u23 u24 u25 u26 u27 u28 u29 u30 u31 u32 u33:Value),Below w.heap.size w w'∧k≤n∧goodFrom pre (xs.drop k) k=goodFrom pre xs 0 ∧
  a'={ tmps:=#[.slice A n c,.bool pre,undef,undef,.bool false,.int .i64 k,u6,u7,u8,u9,u10,u11,u12,u13,u14,u15,u16,u17,u18,u19,u20,u21,u22,u23,u24,u25,u26,u27,u28,u29,u30,u31,u32,u33],defers:=[] }
def GoodM (n:Nat) (a':Act) (_:World):Nat:=n - (intOf (a'.tmps.getD 5 undef)).toNat
theorem good_any (A:Option Addr) (n c:Nat) (xs:List (List UInt8)) (pre:Bool) (w:World) (hr:SRow w A n xs) (hn:n≤maxLen) (hx:∀ x ∈ xs,x.length≤maxLen) :
  Calls Tryz.prog 125 #[.slice A n c,.bool pre] w fun e w'=>e=.returned (.bool (goodFrom pre xs 0))∧Below w.heap.size w w':=by
 have HN:=Lib.hid hn
 unfold maxLen at hn
 have HR:=Lib.hid hr
 have HLX:=Lib.hid hr.1
 have HX:=Lib.hid hx
 clear hr hx
 go_enter Tryz.func125,Tryz.ntmps125
 go_wp2
 refine wp_scope_back 0 (GoodJ w A n c pre xs) (GoodM n) rfl ?_ ?_
 ·rintro a' w1 ⟨k,u6,u7,u8,u9,u10,u11,u12,u13,u14,u15,u16,u17,u18,u19,u20,u21,u22,u23,u24,u25,u26,u27,u28,u29,u30,u31,u32,u33,hb1,hk,hgo,rfl⟩
  have HB1:=Lib.hid hb1
  have HG:=Lib.hid hgo
  clear hb1 hgo
  have hz1:=HB1.out.size
  by_cases h1:k=n
  ·have HF:Hid (goodFrom pre xs 0=true):=by
    unfold Hid
    rw [← HG.out,List.drop_eq_nil_of_le (by rw [HLX.out,h1]; exact Nat.le_refl _),goodFrom]
   have hb:((k:Int) == (n:Int))=true:=by simp [h1]
   clear h1
   go_wp2
   simp only [Exit.jump]
   go_ret
   exact ⟨by rw [HF.out]; rfl,HB1.out⟩
  have hlt:k<n:=by omega
  have hb:((k:Int) == (n:Int))=false:=by simp; omega
  clear h1
  obtain ⟨g,o,rfl,hg,hc1⟩:=(HR.out.kept HB1.out).2 (by omega)
  have hx1:=hc1 k hlt
  clear hc1
  have HKL:Hid (k<xs.length):=by unfold Hid; rw [HLX.out]; exact hlt
  have HST:=Lib.hid (fun h1 h2=>goodFrom_step (pre:=pre) HKL.out h1 h2)
  have HSP:=Lib.hid (fun h=>goodFrom_stop (pre:=pre) HKL.out h)
  have HZ:=Lib.hid (HX.out (xs.getD k []) (by have h:=HKL.out; simp [List.getD,List.getElem?_eq_getElem h]))
  have HKM:Hid (k≤maxLen):=by have:=HN.out; unfold Hid; omega
  generalize xs.getD k []=s at hx1 HST HSP HZ
  obtain ⟨f,hf⟩:∃ f,fault s k pre=f:=⟨_,rfl⟩
  have HFA:Hid (∀ W,Calls Tryz.prog 175 #[.string (mk s),.int .i64 k,.bool pre] W fun e w'=>e=.returned (.int .i64 f)∧Below W.heap.size W w'):=fun W=>by
   have:=fault_any (mk s) k pre W HZ.out HKM.out
   rw [mk_list,hf] at this; exact this
  rw [hf] at HST HSP
  clear hf
  go_upto_region 4 with (fail)
  go_cut [31] (fun x wx=>x=.bool (!(f == 0 && lead s == s.length))∧Below w.heap.size w wx)
  case first =>
   by_cases hf0:f=0
   ·subst hf0
    have HF:Hid ((!((0:Nat) == 0 && lead s == s.length))=(((lead s:Nat):Int) != (s.length:Int))):=by
     unfold Hid
     rw [Bool.eq_iff_iff]; simp; omega
    refine wp_region_held_drew (S:=fun w'=>w'.cell? ⟨g,o+k,none⟩=some (.string (mk s))) (by kernel_rfl) hx1 (fun hHeld=>?_)
    refine tk 0 rfl (.slice (some ⟨g,o,none⟩) n c) ?_
    refine tk 1 rfl (.int .i64 k) ?_
    refine tk 2 rfl (.pointer (some ⟨g,o+k,none⟩)) ?_
    refine tk 3 rfl (.string (mk s)) ?_
    refine tk 4 rfl (.int .i64 k) ?_
    refine tk 5 rfl (.bool pre) ?_
    refine cl 6 rfl fun K hK=>?_
    go_simp
    refine (HFA.out _).mono ?_
    rintro e w2 ⟨rfl,hb2⟩
    have hx2:w2.cell? ⟨g,o+k,none⟩=some (.string (mk s)):=(hb2.cell (p:=⟨g,o+k,none⟩) (by simpa using hg)).trans (by simpa using hx1)
    obtain ⟨cc,W,hcc,hcv,hrr,hbW⟩:=run_bytes w2 (mk s) HZ.out
    have hxW:W.cell? ⟨g,o+k,none⟩=some (.string (mk s)):=(hbW.cell (p:=⟨g,o+k,none⟩) (Nat.lt_of_lt_of_le (by simpa using hg) hb2.size)).trans hx2
    have HBB:=Lib.hid ((HB1.out.drew.trans (hb2.mono hz1)).trans (hbW.mono (Nat.le_trans hz1 hb2.size)))
    have HRR:=Lib.hid hrr
    clear hb2 hrr hbW
    refine hK.out _ _ hx2 (fun hHeld=>?_)
    clear hK K
    try simp only [Act.put,p1,p2,p3]
    refine tk 7 rfl (.bool false) ?_
    refine tk 8 rfl (.bool false) ?_
    refine tk 9 rfl (.slice (some ⟨g,o,none⟩) n c) ?_
    refine tk 10 rfl (.int .i64 k) ?_
    refine tk 11 rfl (.pointer (some ⟨g,o+k,none⟩)) ?_
    refine tk 12 rfl (.string (mk s)) ?_
    refine tk 15 rfl (.slice (some ⟨g,o,none⟩) n c) ?_
    refine tk 16 rfl (.int .i64 k) ?_
    refine tk 17 rfl (.pointer (some ⟨g,o+k,none⟩)) ?_
    refine tk 18 rfl (.string (mk s)) ?_
    refine tk 19 rfl (.int .i64 (mk s).size) ?_
    refine cl 13 rfl fun K hK=>?_
    go_simp
    refine hK.out _ _ hxW (fun hHeld=>?_)
    clear hK K
    try simp only [Act.put,p1,p2,p3]
    refine cl 14 rfl fun K hK=>?_
    go_simp
    refine (length_any _ _ _ _ _ HRR.out).mono ?_
    rintro e w3 ⟨rfl,rfl⟩
    refine hK.out _ _ hxW (fun hHeld=>?_)
    clear hK K
    try simp only [Act.put,p1,p2,p3]
    refine tk 20 rfl (.bool (((lead s:Nat):Int) != (s.length:Int))) ?_ fun w' hS'=>by (go_simp; rfl)
    refine tk 21 rfl (.bool (((lead s:Nat):Int) != (s.length:Int))) ?_
    refine wpAnyH_done (by kernel_rfl) ?_ _
    go_wp2
    go_meet
    exact ⟨by rw [HF.out],HBB.out⟩
   ·have hn1:((f:Int) == 0)=false:=by simp [hf0]
    have hn2:((f:Int) != 0)=true:=by simp [hf0]
    have HF:Hid ((!(f == 0 && lead s == s.length))=true):=by unfold Hid; simp [hf0]
    refine wp_region_held_drew (S:=fun w'=>w'.cell? ⟨g,o+k,none⟩=some (.string (mk s))) (by kernel_rfl) hx1 (fun hHeld=>?_)
    refine tk 0 rfl (.slice (some ⟨g,o,none⟩) n c) ?_
    refine tk 1 rfl (.int .i64 k) ?_
    refine tk 2 rfl (.pointer (some ⟨g,o+k,none⟩)) ?_
    refine tk 3 rfl (.string (mk s)) ?_
    refine tk 4 rfl (.int .i64 k) ?_
    refine tk 5 rfl (.bool pre) ?_
    refine cl 6 rfl fun K hK=>?_
    go_simp
    refine (HFA.out _).mono ?_
    rintro e w2 ⟨rfl,hb2⟩
    have hx2:w2.cell? ⟨g,o+k,none⟩=some (.string (mk s)):=(hb2.cell (p:=⟨g,o+k,none⟩) (by simpa using hg)).trans (by simpa using hx1)
    have HBB:=Lib.hid (HB1.out.drew.trans (hb2.mono hz1))
    clear hb2
    refine hK.out _ _ hx2 (fun hHeld=>?_)
    clear hK K
    try simp only [Act.put,p1,p2,p3]
    refine tk 7 rfl (.bool true) ?_
    refine tk 8 rfl (.bool true) ?_
    refine sk 9 rfl ?_
    refine sk 10 rfl ?_
    refine sk 11 rfl ?_
    refine sk 12 rfl ?_
    refine sk 13 rfl ?_
    refine sk 14 rfl ?_
    refine sk 15 rfl ?_
    refine sk 16 rfl ?_
    refine sk 17 rfl ?_
    refine sk 18 rfl ?_
    refine sk 19 rfl ?_
    refine sk 20 rfl ?_
    refine tk 21 rfl (.bool true) ?_
    refine wpAnyH_done (by kernel_rfl) ?_ _
    go_wp2
    go_meet
    exact ⟨by rw [HF.out],HBB.out⟩
  case rest =>
   obtain ⟨rfl,hbx⟩:=hcut
   have HBX:=Lib.hid hbx; clear hbx
   cases hq:(f == 0 && lead s == s.length)
   ·have HF:Hid (goodFrom pre xs 0=false):=by
     unfold Hid
     rw [← HG.out]
     apply HSP.out
     rw [Bool.and_eq_false_iff] at hq
     rcases hq with h | h
     ·exact .inl (by simpa using h)
     ·exact .inr (by simpa using h)
    clear hq
    simp only [Bool.not_false]
    go_wp2
    simp only [Exit.jump]
    go_ret
    exact ⟨by rw [HF.out]; rfl,HBX.out⟩
   ·have HF:Hid (goodFrom pre (xs.drop (k+1)) (k+1)=goodFrom pre xs 0):=by
     unfold Hid
     rw [Bool.and_eq_true,beq_iff_eq,beq_iff_eq] at hq
     rw [← HG.out,← HST.out hq.1 hq.2]
    clear hq
    simp only [Bool.not_true]
    go_wp2
    go_step3
    rw [show ((k:Int)+1)=((k+1:Nat):Int) from rfl]
    refine ⟨rfl,⟨k+1,_,_,_,_,_,_,_,_,_,_,_,_,_,_,_,_,_,_,_,_,_,_,_,_,_,_,_,_,HBX.out,by omega,HF.out,rfl⟩,?_⟩
    simp [GoodM,intOf]; omega
 ·intro HP
  go_wp2
  go_step3
  rename_i hK
  exact hK _ _ (HP.out _ _ ⟨0,_,_,_,_,_,_,_,_,_,_,_,_,_,_,_,_,_,_,_,_,_,_,_,_,_,_,_,_,Below.refl _ _,by omega,rfl,rfl⟩)
end Go.Proofs.YtnpjklaaokiikaaGreatDoor.Ident
namespace Go.Proofs.YtnpjklaaokiikaaGreatDoor.Ident
open Go.RowKit Num

theorem text_any (A:Option Addr) (n c:Nat) (xs:List (List UInt8)) (w:World) (hr:SRow w A n xs) (hc:n≤c) (hs:shortB xs=true) :
  Calls Tryz.prog 169 #[.slice A n c] w fun e w'=>e=.returned (.string (mk (joined xs)))∧Below w.heap.size w w':=by
 have HJ:Hid (∀ W,W=w→Calls Tryz.prog 210 #[.slice A n c,.string ⟨#[46]⟩] W fun e w'=>e=.returned (.string (mk (joined xs)))∧Below w.heap.size w w'):=by
  rintro W rfl
  have hn:=hr.1
  rw [shortB_iff] at hs
  have hle:=joined_le xs hs.2
  rcases Nat.eq_zero_or_pos n with h0 | h0
  ·subst h0
   have e:xs=[]:=List.eq_nil_of_length_eq_zero hn
   subst e
   refine (Tryz.strings_Join_none A c ⟨#[46]⟩ W).mono ?_
   rintro e w' ⟨rfl,rfl⟩
   exact ⟨rfl,Below.refl _ _⟩
  ·obtain ⟨b,o,rfl,hb,hcell⟩:=hr.2 h0
   have e1:(xs.map mk).map (fun x:ByteArray=>x.data.toList)=xs:=by
    rw [List.map_map]; exact List.map_id xs
   have:=Tryz.strings_Join b o c (xs.map mk) ⟨#[46]⟩ W (fun j x hx=>by
    have hj:j<xs.length:=by have:=(List.getElem?_eq_some_iff.1 hx).1; rwa [List.length_map] at this
    have hx2:x=mk (xs.getD j []):=by
     rw [List.getElem?_map,List.getElem?_eq_getElem hj] at hx
     simp at hx
     rw [← hx]; simp [List.getD,List.getElem?_eq_getElem hj]
    rw [hx2]; exact hcell j (by omega)) hb (by rw [List.length_map]; omega) (by rw [List.length_map]; omega) (by
     rw [e1]
     show (joined xs).length≤_
     omega)
   rw [e1,List.length_map,hn] at this
   exact this
 clear hr hs
 go_enter Tryz.func169,Tryz.ntmps169
 go_wp2_with fail
 refine (HJ.out _ rfl).mono ?_
 rintro e w1 ⟨rfl,hb1⟩
 go_wp2
 go_ret
 exact ⟨rfl,hb1⟩
end Go.Proofs.YtnpjklaaokiikaaGreatDoor.Ident
namespace Go.Proofs.YtnpjklaaokiikaaGreatDoor.Semver
open Go.RowKit Num Ident

def HeldAt (x y z i:Nat):Prop:=i=0∨(i=1∧x≤maxField)∨(i=2∧x≤maxField∧y≤maxField)∨(i=3∧x≤maxField∧y≤maxField∧z≤maxField)
def HeldJ (w:World) (x y z:Nat) (a':Act) (w':World):Prop :=
 ∃ (i:Nat) (u4 u5 u6 u7 u8 u9 u10 u11:Value),w'=w.alloc (.cells #[.int .u64 x,.int .u64 y,.int .u64 z] 174)∧HeldAt x y z i ∧
  a'={ tmps:=#[.agg #[.int .u64 x,.int .u64 y,.int .u64 z],.pointer (some ⟨w.heap.size,0,none⟩),.bool false,.int .i64 i,u4,u5,u6,u7,u8,u9,u10,u11],defers:=[] }
def HeldM (a':Act) (_:World):Nat:=4 - (intOf (a'.tmps.getD 3 undef)).toNat
theorem held_any (x y z:Nat) (w:World) :
  Calls Tryz.prog 124 #[.agg #[.int .u64 x,.int .u64 y,.int .u64 z]] w fun e w'=>e=.returned (.bool (heldB x y z))∧Below w.heap.size w w':=by
 have HB:Hid (Below w.heap.size w (w.alloc (.cells #[.int .u64 x,.int .u64 y,.int .u64 z] 174))):=(Below.refl _ _).alloc (Nat.le_refl _) _
 go_enter Tryz.func124,Tryz.ntmps124
 go_wp2
 refine wp_scope_back 0 (HeldJ w x y z) HeldM rfl ?_ ?_
 ·rintro a' w1 ⟨i,u4,u5,u6,u7,u8,u9,u10,u11,rfl,hat,rfl⟩
  rcases hat with rfl | ⟨rfl,h1⟩ | ⟨rfl,h1,h2⟩ | ⟨rfl,h1,h2,h3⟩
  ·by_cases hx:(x:Int)≤9223372036854775807
   ·have HX:=Lib.hid (field_le hx)
    go_wp2
    go_step3
    refine ⟨rfl,⟨1,_,_,_,_,_,_,_,_,rfl,.inr (.inl ⟨rfl,HX.out⟩),rfl⟩,?_⟩
    simp [HeldM,intOf]
   ·have HF:Hid (heldB x y z=false):=heldB_no fun hh=>field_no hx hh.1
    have hx2:(9223372036854775807:Int)<(x:Int):=by omega
    clear hx
    go_wp2
    simp only [Exit.jump]
    go_ret
    exact ⟨by rw [HF.out]; rfl,HB.out⟩
  ·have H1:=Lib.hid h1; clear h1
   by_cases hx:(y:Int)≤9223372036854775807
   ·have HX:=Lib.hid (field_le hx)
    go_wp2
    go_step3
    refine ⟨rfl,⟨2,_,_,_,_,_,_,_,_,rfl,.inr (.inr (.inl ⟨rfl,H1.out,HX.out⟩)),rfl⟩,?_⟩
    simp [HeldM,intOf]
   ·have HF:Hid (heldB x y z=false):=heldB_no fun hh=>field_no hx hh.2.1
    have hx2:(9223372036854775807:Int)<(y:Int):=by omega
    clear hx
    go_wp2
    simp only [Exit.jump]
    go_ret
    exact ⟨by rw [HF.out]; rfl,HB.out⟩
  ·have H1:=Lib.hid h1; clear h1; have H2:=Lib.hid h2; clear h2
   by_cases hx:(z:Int)≤9223372036854775807
   ·have HX:=Lib.hid (field_le hx)
    go_wp2
    go_step3
    refine ⟨rfl,⟨3,_,_,_,_,_,_,_,_,rfl,.inr (.inr (.inr ⟨rfl,H1.out,H2.out,HX.out⟩)),rfl⟩,?_⟩
    simp [HeldM,intOf]
   ·have HF:Hid (heldB x y z=false):=heldB_no fun hh=>field_no hx hh.2.2
    have hx2:(9223372036854775807:Int)<(z:Int):=by omega
    clear hx
    go_wp2
    simp only [Exit.jump]
    go_ret
    exact ⟨by rw [HF.out]; rfl,HB.out⟩
  ·have HF:=Lib.hid (heldB_yes h1 h2 h3)
   clear h1 h2 h3
   go_wp2
   simp only [Exit.jump]
   go_ret
   exact ⟨by rw [HF.out]; rfl,HB.out⟩
 ·intro HP
  go_wp2
  go_step3
  rename_i hK
  exact hK _ _ (HP.out _ _ ⟨0,_,_,_,_,_,_,_,_,rfl,.inl rfl,rfl⟩)
theorem vgood_any (v:Ver) (A:Option Addr) (c:Nat) (B:Option Addr) (d:Nat) (w:World) (hr1:SRow w A v.pre.length v.pre) (hr2:SRow w B v.build.length v.build)
  (hn1:v.pre.length≤maxLen) (hn2:v.build.length≤maxLen) (hx1:∀ x ∈ v.pre,x.length≤maxLen) (hx2:∀ x ∈ v.build,x.length≤maxLen) :
  Calls Tryz.prog 67 #[.agg #[v.a,v.b,v.c,.slice A v.pre.length c,.slice B v.build.length d]] w fun e w'=>e=.returned (.bool (goodV v))∧Below w.heap.size w w':=by
 have R1:=Lib.hid hr1
 have R2:=Lib.hid hr2
 have N1:=Lib.hid hn1
 have N2:=Lib.hid hn2
 have X1:=Lib.hid hx1
 have X2:=Lib.hid hx2
 clear hr1 hr2 hn1 hn2 hx1 hx2
 have HBa:=Lib.hid ((Below.refl w.heap.size w).alloc (Nat.le_refl _) (.cells #[v.a,v.b,v.c,.slice A v.pre.length c,.slice B v.build.length d] 34))
 have K0:=Lib.hid (At5.new w 34 v.a v.b v.c (.slice A v.pre.length c) (.slice B v.build.length d))
 have HG:Hid (goodV v=(heldB v.a v.b v.c && (goodFrom true v.pre 0 && goodFrom false v.build 0))):=rfl
 go_enter Tryz.func67,Tryz.ntmps67
 go_wp2_with fail
 refine (coreOf_any _ _ _ _ _ _).mono ?_
 rintro e w1 ⟨rfl,hb1⟩
 have K1:=Lib.hid (K0.out.kept hb1 (by simp))
 have B1:=Lib.hid (HBa.out.trans (hb1.mono (by simp)))
 have hz1:=K1.out.1
 clear hb1 K0 HBa
 go_wp2_with fail
 refine (held_any _ _ _ _).mono ?_
 rintro e w2 ⟨rfl,hb2⟩
 have K2:=Lib.hid (K1.out.kept hb2 (by omega))
 have B2:=Lib.hid (B1.out.trans (hb2.mono (by omega)))
 have hz2:=K2.out.1
 clear hb2 K1 B1
 generalize heldB v.a v.b v.c=g1 at HG ⊢
 obtain ⟨_,_,x0,x1,x2,x3,x4⟩:=K2.out
 cases g1
 ·go_wp2
  go_ret
  exact ⟨by rw [HG.out]; rfl,B2.out⟩
 go_wp2_with fail
 refine (good_any _ _ _ v.pre true _ (R1.out.kept B2.out) N1.out X1.out).mono ?_
 rintro e w3 ⟨rfl,hb3⟩
 have K3:=Lib.hid (K2.out.kept hb3 (by omega))
 have B3:=Lib.hid (B2.out.trans (hb3.mono (by omega)))
 clear hb3 x0 x1 x2 x3 x4
 generalize goodFrom true v.pre 0=g2 at HG ⊢
 obtain ⟨hz3,_,x0,x1,x2,x3,x4⟩:=K3.out
 cases g2
 ·go_wp2
  go_ret
  exact ⟨by rw [HG.out]; rfl,B3.out⟩
 go_wp2_with fail
 refine (good_any _ _ _ v.build false _ (R2.out.kept B3.out) N2.out X2.out).mono ?_
 rintro e w4 ⟨rfl,hb4⟩
 have B4:=Lib.hid (B3.out.trans (hb4.mono (by omega)))
 clear hb4 x0 x1 x2 x3 x4
 go_wp2
 go_ret
 exact ⟨by rw [HG.out]; simp,B4.out⟩
end Go.Proofs.YtnpjklaaokiikaaGreatDoor.Semver
