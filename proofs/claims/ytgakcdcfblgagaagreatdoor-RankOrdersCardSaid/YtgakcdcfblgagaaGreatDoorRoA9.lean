/-
  What the theorem of the last text needs of these: PrCmp, SpSweep, RgTell. Conditions: as each theorem states.
-/
import Derived.Test.YtgakcdcfblgagaaGreatDoorRoA1
import Derived.Test.YtgakcdcfblgagaaGreatDoorRoA7
import Derived.Test.YtgakcdcfblgagaaGreatDoorRoA8
import Derived.Deep.CutBlock
import Derived.Deep.DeepCutAuto
import Derived.Deep.RegionHeld3
import Derived.Deep.QuietTactic
import Derived.BigQuiet
set_option maxRecDepth 100000
set_option maxHeartbeats 25600000
namespace Go.Proofs.YtgakcdcfblgagaaGreatDoor.Prec
open Go.RowKit Num Ident Semver

def Fit (xs:List (List UInt8)):Prop:=xs.length≤maxLen∧∀ x ∈ xs,x.length≤maxLen
theorem Fit.nil:Fit []:=⟨by unfold maxLen; simp,fun x hx=>by simp at hx⟩
theorem Fit.zero:Fit [[48]]:=⟨by unfold maxLen; simp,fun x hx=>by simp at hx; subst hx; unfold maxLen; simp⟩
theorem releases_anyD (A:Option Addr) (ca:Nat) (xs:List (List UInt8)) (B:Option Addr) (cb:Nat) (ys:List (List UInt8)) (w:World) (hA:SRow w A xs.length xs) (hB:SRow w B ys.length ys) (fx:Fit xs) (fy:Fit ys) :
  Calls Tryz.prog 170 #[.slice A xs.length ca,.slice B ys.length cb] w fun e w'=>e=.returned (.int .i64 (cmpPre xs ys))∧BelowD w.heap.size w w':=by
 have HA:=Lib.hid hA
 have HB:=Lib.hid hB
 have FX:=Lib.hid fx
 have FY:=Lib.hid fy
 have hx:=fx.1
 have hy:=fy.1
 unfold maxLen at hx hy
 clear hA hB fx fy
 by_cases h1:xs.length=0
 ·by_cases h2:ys.length=0
  ·have HF:=Lib.hid (cmpPre_rows (x:=xs) (y:=ys) ⟨fun _=>h2,fun _=>h1⟩)
   have K:Hid (∀ W,W=w→Calls Tryz.prog 114 #[.slice A xs.length ca,.slice B ys.length cb] W fun e w'=>e=.returned (.int .i64 (cmpPre xs ys))∧BelowD w.heap.size w w'):=by
    rintro W rfl; rw [HF.out]; exact rows_anyD A _ ca xs B _ cb ys W HA.out HB.out FX.out.1 FY.out.1 FX.out.2 FY.out.2
   rw [h1,h2] at K
   clear HF
   go_enter Tryz.func170,Tryz.ntmps170
   go_wp2_with fail
   refine (K.out _ rfl).mono ?_
   rintro e w1 ⟨rfl,hb1⟩
   go_wp2
   go_ret
   exact ⟨rfl,hb1⟩
  ·have HF:=Lib.hid (cmpPre_one h1 h2)
   have h3:0<ys.length:=by omega
   go_enter Tryz.func170,Tryz.ntmps170
   go_wp2
   go_ret
   exact ⟨by rw [HF.out]; rfl,BelowD.refl _ _⟩
 ·have h3:0<xs.length:=by omega
  by_cases h2:ys.length=0
  ·have HF:=Lib.hid (cmpPre_two h1 h2)
   go_enter Tryz.func170,Tryz.ntmps170
   go_wp2
   go_ret
   exact ⟨by rw [HF.out]; rfl,BelowD.refl _ _⟩
  ·have h4:0<ys.length:=by omega
   have HF:=Lib.hid (cmpPre_rows (x:=xs) (y:=ys) ⟨fun h=>absurd h h1,fun h=>absurd h h2⟩)
   have K:Hid (∀ W,W=w→Calls Tryz.prog 114 #[.slice A xs.length ca,.slice B ys.length cb] W fun e w'=>e=.returned (.int .i64 (cmpPre xs ys))∧BelowD w.heap.size w w'):=by
    rintro W rfl; rw [HF.out]; exact rows_anyD A _ ca xs B _ cb ys W HA.out HB.out FX.out.1 FY.out.1 FX.out.2 FY.out.2
   clear HF
   go_enter Tryz.func170,Tryz.ntmps170
   go_wp2_with fail
   refine (K.out _ rfl).mono ?_
   rintro e w1 ⟨rfl,hb1⟩
   go_wp2
   go_ret
   exact ⟨rfl,hb1⟩
theorem compare_anyD (u v:Ver) (A1 A2 B1 B2:Option Addr) (c1 c2 d1 d2:Nat) (w:World) (r1:SRow w A1 u.pre.length u.pre) (q1:SRow w B1 v.pre.length v.pre) (f1:Fit u.pre) (g1:Fit v.pre) :
  Calls Tryz.prog 113 #[.agg #[u.a,u.b,u.c,.slice A1 u.pre.length c1,.slice A2 u.build.length c2],.agg #[v.a,v.b,v.c,.slice B1 v.pre.length d1,.slice B2 v.build.length d2]] w fun e w'=>e=.returned (.int .i64 (cmpV u v))∧BelowD w.heap.size w w':=by
 have HB0:Hid (BelowD w.heap.size w ((w.alloc (.cells #[u.a,u.b,u.c,.slice A1 u.pre.length c1,.slice A2 u.build.length c2] 37)).alloc (.cells #[v.a,v.b,v.c,.slice B1 v.pre.length d1,.slice B2 v.build.length d2] 37))):=((BelowD.refl _ _).alloc (Nat.le_refl _) _).alloc (by simp) _
 have K1:Hid (At5 ((w.alloc (.cells #[u.a,u.b,u.c,.slice A1 u.pre.length c1,.slice A2 u.build.length c2] 37)).alloc (.cells #[v.a,v.b,v.c,.slice B1 v.pre.length d1,.slice B2 v.build.length d2] 37)) w.heap.size u.a u.b u.c (.slice A1 u.pre.length c1) (.slice A2 u.build.length c2)):=(At5.new w 37 _ _ _ _ _).kept ((Below.refl _ _).alloc (Nat.le_refl _) _) (by simp)
 have K2:Hid (At5 ((w.alloc (.cells #[u.a,u.b,u.c,.slice A1 u.pre.length c1,.slice A2 u.build.length c2] 37)).alloc (.cells #[v.a,v.b,v.c,.slice B1 v.pre.length d1,.slice B2 v.build.length d2] 37)) (w.heap.size+1) v.a v.b v.c (.slice B1 v.pre.length d1) (.slice B2 v.build.length d2)):=by
  have:=At5.new (w.alloc (.cells #[u.a,u.b,u.c,.slice A1 u.pre.length c1,.slice A2 u.build.length c2] 37)) 37 v.a v.b v.c (.slice B1 v.pre.length d1) (.slice B2 v.build.length d2)
  rw [size_alloc] at this; exact this
 have R1:=Lib.hid r1
 have Q1:=Lib.hid q1
 have F1:=Lib.hid f1
 have G1:=Lib.hid g1
 clear r1 q1 f1 g1
 have HF:Hid (cmpV u v=if cmpCore u v=0 then cmpPre u.pre v.pre else cmpCore u v):=rfl
 have HC:Hid (∀ W,Calls Tryz.prog 168 #[.agg #[u.a,u.b,u.c],.agg #[v.a,v.b,v.c]] W fun e w'=>e=.returned (.int .i64 (cmpCore u v))∧BelowD W.heap.size W w'):=fun W=>cores_anyD u v W
 generalize cmpCore u v=c at HF HC
 go_enter Tryz.func113,Tryz.ntmps113
 go_upto_region 1 with (fail)
 generalize ((w.alloc (.cells #[u.a,u.b,u.c,.slice A1 u.pre.length c1,.slice A2 u.build.length c2] 37)).alloc (.cells #[v.a,v.b,v.c,.slice B1 v.pre.length d1,.slice B2 v.build.length d2] 37))=W at HB0 K1 K2 ⊢
 have hz:=K2.out.1
 have hw:=HB0.out.size
 have D0:=Lib.hid (BelowD.refl W.heap.size W).drew
 have D1:=Lib.hid (D0.out.mono (B':=w.heap.size) hw)
 refine wp_region_held_drew (S:=fun w'=>(w'.cell? ⟨w.heap.size,0,none⟩=some (.int .u64 u.a)∧w'.cell? ⟨w.heap.size,1,none⟩=some (.int .u64 u.b)∧w'.cell? ⟨w.heap.size,2,none⟩=some (.int .u64 u.c)∧w'.cell? ⟨w.heap.size,3,none⟩=some (.slice A1 u.pre.length c1)∧w'.cell? ⟨w.heap.size,4,none⟩=some (.slice A2 u.build.length c2))∧(w'.cell? ⟨(w.heap.size+1),0,none⟩=some (.int .u64 v.a)∧w'.cell? ⟨(w.heap.size+1),1,none⟩=some (.int .u64 v.b)∧w'.cell? ⟨(w.heap.size+1),2,none⟩=some (.int .u64 v.c)∧w'.cell? ⟨(w.heap.size+1),3,none⟩=some (.slice B1 v.pre.length d1)∧w'.cell? ⟨(w.heap.size+1),4,none⟩=some (.slice B2 v.build.length d2))) (by kernel_rfl) ⟨K1.out.2.2,K2.out.2.2⟩ (fun hHeld=>?_)
 refine tk 0 rfl (.agg #[u.a,u.b,u.c,.slice A1 u.pre.length c1,.slice A2 u.build.length c2]) ?_
 refine tk 2 rfl (.agg #[v.a,v.b,v.c,.slice B1 v.pre.length d1,.slice B2 v.build.length d2]) ?_
 refine cl 1 rfl fun K hK=>?_
 go_simp
 refine (coreOf_anyD _ _ _ _ _ _).mono ?_
 rintro e w2 ⟨rfl,hb2⟩
 have L1:=Lib.hid ((K1.out.kept D0.out.toBelow (by omega)).kept hb2.toBelow (by simp; omega))
 have L2:=Lib.hid ((K2.out.kept D0.out.toBelow (by omega)).kept hb2.toBelow (by simp; omega))
 have B2:=Lib.hid ((HB0.out.trans D1.out).trans (hb2.mono (by simp; omega)))
 have hz2:W.heap.size≤w2.heap.size:=by have:=hb2.size; simpa using this
 clear hb2
 refine hK.out _ _ ⟨L1.out.2.2,L2.out.2.2⟩ (fun hHeld=>?_)
 clear hK K
 try simp only [Act.put,p1,p2,p3]
 refine cl 3 rfl fun K hK=>?_
 go_simp
 refine (coreOf_anyD _ _ _ _ _ _).mono ?_
 rintro e w3 ⟨rfl,hb3⟩
 have M1:=Lib.hid (L1.out.kept hb3.toBelow (by omega))
 have M2:=Lib.hid (L2.out.kept hb3.toBelow (by omega))
 have B3:=Lib.hid (B2.out.trans (hb3.mono (by omega)))
 have hz3:=hb3.size
 clear hb3
 refine hK.out _ _ ⟨M1.out.2.2,M2.out.2.2⟩ (fun hHeld=>?_)
 clear hK K
 try simp only [Act.put,p1,p2,p3]
 refine cl 4 rfl fun K hK=>?_
 go_simp
 refine (HC.out _).mono ?_
 rintro e w4 ⟨rfl,hb4⟩
 have N1:=Lib.hid (M1.out.kept hb4.toBelow (by omega))
 have N2:=Lib.hid (M2.out.kept hb4.toBelow (by omega))
 have B4:=Lib.hid (B3.out.trans (hb4.mono (by omega)))
 have hz4:=hb4.size
 clear hb4
 refine hK.out _ _ ⟨N1.out.2.2,N2.out.2.2⟩ (fun hHeld=>?_)
 clear hK K
 try simp only [Act.put,p1,p2,p3]
 refine tk 5 rfl (.int .i64 c) ?_
 refine wpAnyH_done (by kernel_rfl) ?_ _
 clear hHeld
 by_cases hc:c=0
 ·have HF2:Hid (cmpPre u.pre v.pre=cmpV u v):=by have:=HF.out; rw [if_pos hc] at this; exact this.symm
  have KR:Hid (∀ W',W'=w4→Calls Tryz.prog 170 #[.slice A1 u.pre.length c1,.slice B1 v.pre.length d1] W' fun e w'=>e=.returned (.int .i64 (cmpV u v))∧BelowD w4.heap.size w4 w'):=by
   rintro W' rfl; rw [← HF2.out]; exact releases_anyD A1 c1 u.pre B1 d1 v.pre W' (R1.out.kept B4.out.toBelow) (Q1.out.kept B4.out.toBelow) F1.out G1.out
  subst hc
  obtain ⟨_,_,x0,x1,x2,x3,x4⟩:=N1.out
  obtain ⟨_,_,y0,y1,y2,y3,y4⟩:=N2.out
  clear HF HF2
  go_wp2_with fail
  refine (KR.out _ rfl).mono ?_
  rintro e w5 ⟨rfl,hb5⟩
  have B5:=Lib.hid (B4.out.trans (hb5.mono (by omega)))
  clear hb5
  go_wp2
  go_ret
  exact ⟨rfl,B5.out⟩
 ·have HF2:Hid (cmpV u v=c):=by have:=HF.out; rw [if_neg hc] at this; exact this
  have hn:(c == 0)=false:=by simp [hc]
  have hn2:(c != 0)=true:=by simp [hc]
  clear HF hc
  go_wp2
  go_ret
  exact ⟨by rw [HF2.out]; rfl,B4.out⟩
end Go.Proofs.YtgakcdcfblgagaaGreatDoor.Prec
namespace Go.Proofs.YtgakcdcfblgagaaGreatDoor.Span
open Go.RowKit Num Ident Semver Prec

structure Edge where
 cut:Cut
 step:Int
def cov (l:List Edge) (c:Cut):Int:=(l.map fun e=>if stand e.cut c≤0 then e.step else 0).sum
def total (l:List Edge):Int:=(l.map fun e=>e.step).sum
theorem cov_nil (c:Cut):cov [] c=0:=rfl
theorem cov_cons (e:Edge) (l:List Edge) (c:Cut):cov (e :: l) c=(if stand e.cut c≤0 then e.step else 0)+cov l c:=by unfold cov; rw [List.map_cons,List.sum_cons]
theorem cov_append (l m:List Edge) (c:Cut):cov (l ++ m) c=cov l c+cov m c:=by unfold cov; rw [List.map_append,List.sum_append]
theorem total_cons (e:Edge) (l:List Edge):total (e :: l)=e.step+total l:=by unfold total; rw [List.map_cons,List.sum_cons]
theorem total_append (l m:List Edge):total (l ++ m)=total l+total m:=by unfold total; rw [List.map_append,List.sum_append]
theorem cov_perm {l m:List Edge} (h:l.Perm m) (c:Cut):cov l c=cov m c:=by
 induction h with
 | nil=>rfl
 | cons x _ ih=>rw [cov_cons,cov_cons,ih]
 | swap x y l=>rw [cov_cons,cov_cons,cov_cons,cov_cons]; omega
 | trans _ _ h1 h2=>rw [h1,h2]
theorem total_perm {l m:List Edge} (h:l.Perm m):total l=total m:=by
 induction h with
 | nil=>rfl
 | cons x _ ih=>rw [total_cons,total_cons,ih]
 | swap x y l=>rw [total_cons,total_cons,total_cons,total_cons]; omega
 | trans _ _ h1 h2=>rw [h1,h2]
theorem cov_none {l:List Edge} {c:Cut} (h:∀ e ∈ l,stand c e.cut<0):cov l c=0:=by
 induction l with
 | nil=>rfl
 | cons e l ih =>
  rw [cov_cons,if_neg (lt_not (h e (List.mem_cons_self ..))),ih fun x hx=>h x (List.mem_cons_of_mem _ hx)]; rfl
def edgesOf (l:List Sp) (step:Int):List Edge:=(l.filter cnt).flatMap fun s=>[⟨s.lo,step⟩,⟨s.hi,0 - step⟩]
theorem edgesOf_yes {s:Sp} (l:List Sp) (step:Int) (h:cnt s=true):edgesOf (s :: l) step=⟨s.lo,step⟩ :: ⟨s.hi,0 - step⟩ :: edgesOf l step:=by
 unfold edgesOf; rw [List.filter_cons_of_pos h]; rfl
theorem edgesOf_no {s:Sp} (l:List Sp) (step:Int) (h:cnt s=false):edgesOf (s :: l) step=edgesOf l step:=by
 unfold edgesOf; rw [List.filter_cons_of_neg (by simp [h])]
theorem edgesOf_snoc_yes {s:Sp} (l:List Sp) (step:Int) (h:cnt s=true):edgesOf (l ++ [s]) step=edgesOf l step ++ [⟨s.lo,step⟩,⟨s.hi,0 - step⟩]:=by
 unfold edgesOf; rw [List.filter_append,List.flatMap_append,List.filter_cons_of_pos h]; rfl
theorem edgesOf_snoc_no {s:Sp} (l:List Sp) (step:Int) (h:cnt s=false):edgesOf (l ++ [s]) step=edgesOf l step:=by
 unfold edgesOf; rw [List.filter_append,List.flatMap_append,List.filter_cons_of_neg (by simp [h])]; simp
theorem edgesOf_total (l:List Sp) (step:Int):total (edgesOf l step)=0:=by
 induction l with
 | nil=>rfl
 | cons s l ih =>
  cases h:cnt s
  ·rw [edgesOf_no l step h]; exact ih
  ·rw [edgesOf_yes l step h,total_cons,total_cons,ih]; show step+(0 - step+0)=0; omega
theorem edgesOf_right (l:List Sp) (step:Int):∀ e ∈ edgesOf l step,right e.cut=true:=by
 induction l with
 | nil=>intro e he; cases he
 | cons s l ih =>
  intro e he
  cases h:cnt s
  ·rw [edgesOf_no l step h] at he; exact ih e he
  ·rw [edgesOf_yes l step h] at he
   have hc:=(cnt_iff s).1 h
   rcases List.mem_cons.1 he with rfl | he
   ·exact hc.1
   ·rcases List.mem_cons.1 he with rfl | he
    ·exact hc.2.1
    ·exact ih e he
theorem edgesOf_step (l:List Sp) (step:Int):∀ e ∈ edgesOf l step,e.step=step∨e.step=0 - step:=by
 induction l with
 | nil=>intro e he; cases he
 | cons s l ih =>
  intro e he
  cases h:cnt s
  ·rw [edgesOf_no l step h] at he; exact ih e he
  ·rw [edgesOf_yes l step h] at he
   rcases List.mem_cons.1 he with rfl | he
   ·exact .inl rfl
   ·rcases List.mem_cons.1 he with rfl | he
    ·exact .inr rfl
    ·exact ih e he
def times (l:List Sp) (c:Cut):Nat:=(l.filter fun s=>cnt s && (decide (stand s.lo c≤0) && decide (stand c s.hi<0))).length
theorem times_yes {s:Sp} (l:List Sp) {c:Cut} (h:cnt s=true) (h1:inOne s c):times (s :: l) c=times l c+1:=by
 unfold times; rw [List.filter_cons_of_pos (by simp [h,h1.1,h1.2])]; rfl
theorem times_no {s:Sp} (l:List Sp) {c:Cut} (h:¬ (cnt s=true∧inOne s c)):times (s :: l) c=times l c:=by
 unfold times; rw [List.filter_cons_of_neg (by intro k; simp at k; exact h ⟨k.1,k.2.1,k.2.2⟩)]
theorem edgesOf_cov (l:List Sp) (step:Int) (c:Cut):cov (edgesOf l step) c=step * (times l c:Int):=by
 induction l with
 | nil=>simp [edgesOf,times,cov]
 | cons s l ih =>
  cases h:cnt s
  ·rw [edgesOf_no l step h,times_no l (fun k=>by rw [h] at k; cases k.1)]; exact ih
  ·rw [edgesOf_yes l step h,cov_cons,cov_cons,ih]
   have hc:=(cnt_iff s).1 h
   show (if stand s.lo c≤0 then step else 0)+((if stand s.hi c≤0 then 0 - step else 0)+_)=_
   by_cases h1:stand s.lo c≤0
   ·by_cases h2:stand s.hi c≤0
    ·rw [if_pos h1,if_pos h2,times_no l (fun k=>le_not h2 k.2.2)]; omega
    ·rw [if_pos h1,if_neg h2,times_yes l h ⟨h1,not_le h2⟩,Int.natCast_add,Int.mul_add]
     simp; omega
   ·have h2:¬ stand s.hi c≤0:=fun k=>h1 (le_le (by have:=hc.2.2; omega) k)
    rw [if_neg h1,if_neg h2,times_no l (fun k=>h1 k.2.1)]; omega
theorem times_pos (l:List Sp) (c:Cut):1≤times l c↔inR l c:=by
 induction l with
 | nil =>
  constructor
  ·intro h; simp [times] at h
  ·rintro ⟨s,hs,_⟩; cases hs
 | cons s l ih =>
  by_cases h:cnt s=true∧inOne s c
  ·rw [times_yes l h.1 h.2]
   exact ⟨fun _=>⟨s,List.mem_cons_self ..,h⟩,fun _=>by omega⟩
  ·rw [times_no l h,ih]
   constructor
   ·rintro ⟨t,ht,k⟩; exact ⟨t,List.mem_cons_of_mem _ ht,k⟩
   ·rintro ⟨t,ht,k⟩
    rcases List.mem_cons.1 ht with rfl | ht
    ·exact absurd k h
    ·exact ⟨t,ht,k⟩
theorem Norm.once {l:List Sp} (h:Norm l) (c:Cut):times l c≤1:=by
 induction l with
 | nil=>simp [times]
 | cons s l ih =>
  by_cases k:Span.cnt s=true∧inOne s c
  ·rw [times_yes l k.1 k.2]
   have:¬ 1≤times l c:=by
    rw [times_pos]
    rintro ⟨t,ht,_,i⟩
    exact lt_not (h.ahead t ht) (le_le i.1 (by have:=k.2.2; omega))
   omega
  ·rw [times_no l k]; exact ih h.tail

def go (n:Int):Cut→Bool→Int→Cut→List Edge→List Sp
 | _,_,_,_,[]=>[]
 | cut,was,t,lo,[e] =>
  if was=true∧¬ n≤t+e.step then [⟨lo,cut⟩] else []
 | cut,was,t,lo,e :: f :: r =>
  if stand cut f.cut=0 then go n cut was (t+e.step) lo (f :: r)
  else if n≤t+e.step∧was=false then go n f.cut true (t+e.step) cut (f :: r)
  else if was=true∧¬ n≤t+e.step then ⟨lo,cut⟩ :: go n f.cut false (t+e.step) lo (f :: r)
  else go n f.cut was (t+e.step) lo (f :: r)
def sweepL (n:Int):List Edge→List Sp
 | []=>[]
 | e :: r=>go n e.cut (decide (n≤0)) 0 low (e :: r)

structure Open (cut:Cut) (was:Bool) (lo:Cut) (out:List Sp):Prop where
 norm:Norm out
 yes:was=true→∃ h r,out=⟨lo,h⟩ :: r∧stand cut h≤0∧∀ s ∈ r,stand cut s.lo<0
 no:was=false→∀ s ∈ out,stand cut s.lo≤0

theorem sorted_ge {e:Edge} {r:List Edge} (h:(e :: r).Pairwise fun x y=>stand x.cut y.cut≤0):∀ x ∈ r,stand e.cut x.cut≤0:=(List.pairwise_cons.1 h).1

theorem go_open (n:Int):∀ (l:List Edge) (cut:Cut) (was:Bool) (t:Int) (lo:Cut),l≠[]→(l.Pairwise fun x y=>stand x.cut y.cut≤0)→(∀ e ∈ l,right e.cut=true)→right cut=true →
  (∀ e ∈ l,stand cut e.cut≤0)→(∃ e r,l=e :: r∧stand cut e.cut=0)→(was=true→right lo=true∧stand lo cut<0)→t+total l<n →
  Open cut was lo (go n cut was t lo l)∧∀ c,inS (go n cut was t lo l) c↔(if stand c cut<0 then was=true∧stand lo c≤0 else n≤t+cov l c)
 | [],_,_,_,_,h,_,_,_,_,_,_,_=>absurd rfl h
 | [e],cut,was,t,lo,_,_,_,hc,_,he,hlo,ht=>by
  obtain ⟨e',r',heq,hz⟩:=he
  obtain ⟨rfl,rfl⟩:e=e'∧[]=r':=by injection heq with h1 h2; exact ⟨h1,h2⟩
  have ht2:¬ n≤t+e.step:=by rw [total_cons] at ht; have:total []=0:=rfl; omega
  have hcov:∀ c,¬ stand c cut<0→t+cov [e] c=t+e.step:=fun c h=>by
   rw [cov_cons,cov_nil,if_pos (le_le (by have:=like_flip hz; omega) (not_lt h))]; omega
  unfold go
  cases was with
  | true =>
   rw [if_pos ⟨rfl,ht2⟩]
   obtain ⟨h1,h2⟩:=hlo rfl
   refine ⟨⟨⟨fun s hs=>?_,List.pairwise_singleton _ _⟩,fun _=>⟨cut,[],rfl,by rw [stand_self]; exact Int.le_refl 0,(fun s hs=>by cases hs)⟩,(fun h=>by cases h)⟩,fun c=>?_⟩
   ·rw [List.mem_singleton] at hs; subst hs; exact (cnt_iff _).2 ⟨h1,hc,h2⟩
   ·by_cases k:stand c cut<0
    ·rw [if_pos k]
     constructor
     ·rintro ⟨s,hs,i⟩; rw [List.mem_singleton] at hs; subst hs; exact ⟨rfl,i.1⟩
     ·rintro ⟨_,i⟩; exact ⟨_,List.mem_singleton.2 rfl,i,k⟩
    ·rw [if_neg k,hcov c k]
     constructor
     ·rintro ⟨s,hs,i⟩; rw [List.mem_singleton] at hs; subst hs; exact absurd i.2 k
     ·intro h; exact absurd h ht2
  | false =>
   rw [if_neg (by rintro ⟨h,_⟩; cases h)]
   refine ⟨⟨Norm.nil,(fun h=>by cases h),fun _ s hs=>by cases hs⟩,fun c=>?_⟩
   by_cases k:stand c cut<0
   ·rw [if_pos k]
    constructor
    ·rintro ⟨s,hs,_⟩; cases hs
    ·rintro ⟨h,_⟩; cases h
   ·rw [if_neg k,hcov c k]
    constructor
    ·rintro ⟨s,hs,_⟩; cases hs
    ·intro h; exact absurd h ht2
 | e :: f :: r,cut,was,t,lo,_,hp,hr,hc,hge,he,hlo,ht=>by
  obtain ⟨e',r',heq,hz⟩:=he
  obtain ⟨rfl,rfl⟩:e=e'∧f :: r=r':=by injection heq with h1 h2; exact ⟨h1,h2⟩
  have hp2:=(List.pairwise_cons.1 hp).2
  have hr2:∀ x ∈ f :: r,right x.cut=true:=fun x hx=>hr x (List.mem_cons_of_mem _ hx)
  have ht2:t+e.step+total (f :: r)<n:=by rw [total_cons] at ht; omega
  have hge2:∀ x ∈ f :: r,stand cut x.cut≤0:=fun x hx=>hge x (List.mem_cons_of_mem _ hx)
  have hcov:∀ c,¬ stand c cut<0→t+cov (e :: f :: r) c=t+e.step+cov (f :: r) c:=fun c h=>by
   rw [cov_cons,if_pos (le_le (by have:=like_flip hz; omega) (not_lt h))]; omega
  have hfge:∀ x ∈ f :: r,stand f.cut x.cut≤0:=fun x hx=>by
   rcases List.mem_cons.1 hx with rfl | hx
   ·rw [stand_self]; exact Int.le_refl 0
   ·exact sorted_ge hp2 x hx
  unfold go
  by_cases h0:stand cut f.cut=0
  ·rw [if_pos h0]
   obtain ⟨o,k⟩:=go_open n (f :: r) cut was (t+e.step) lo (by simp) hp2 hr2 hc hge2 ⟨f,r,rfl,h0⟩ hlo ht2
   refine ⟨o,fun c=>(k c).trans ?_⟩
   by_cases q:stand c cut<0
   ·rw [if_pos q,if_pos q]
   ·rw [if_neg q,if_neg q,hcov c q]
  ·rw [if_neg h0]
   have hcf:stand cut f.cut<0:=by have:=hge2 f (List.mem_cons_self ..); omega
   have hfr:=hr2 f (List.mem_cons_self ..)
   have hself:∃ e r',f :: r=e :: r'∧stand f.cut e.cut=0:=⟨f,r,rfl,stand_self _⟩
   have hmid:∀ c,¬ stand c cut<0→stand c f.cut<0→t+e.step+cov (f :: r) c=t+e.step:=fun c _ h=>by
    rw [cov_none fun x hx=>lt_le h (hfge x hx)]; omega
   by_cases h1:n≤t+e.step∧was=false
   ·rw [if_pos h1]
    obtain ⟨h1,rfl⟩:=h1
    obtain ⟨o,k⟩:=go_open n (f :: r) f.cut true (t+e.step) cut (by simp) hp2 hr2 hfr hfge hself (fun _=>⟨hc,hcf⟩) ht2
    obtain ⟨h,q,e1,e2,e3⟩:=o.yes rfl
    refine ⟨⟨o.norm,(fun h=>by cases h),fun _ s hs=>?_⟩,fun c=>(k c).trans ?_⟩
    ·rw [e1] at hs
     rcases List.mem_cons.1 hs with rfl | hs
     ·show stand cut cut≤0; rw [stand_self]; exact Int.le_refl 0
     ·have:=lt_lt hcf (e3 s hs); omega
    ·by_cases q1:stand c cut<0
     ·rw [if_pos q1,if_pos (lt_lt q1 hcf)]
      constructor
      ·rintro ⟨_,g⟩; exact absurd q1 (le_not g)
      ·rintro ⟨g,_⟩; cases g
     ·rw [if_neg q1,hcov c q1]
      by_cases q2:stand c f.cut<0
      ·rw [if_pos q2,hmid c q1 q2]
       exact ⟨fun _=>h1,fun _=>⟨rfl,not_lt q1⟩⟩
      ·rw [if_neg q2]
   ·rw [if_neg h1]
    by_cases h2:was=true∧¬ n≤t+e.step
    ·rw [if_pos h2]
     obtain ⟨rfl,h2⟩:=h2
     obtain ⟨l1,l2⟩:=hlo rfl
     obtain ⟨o,k⟩:=go_open n (f :: r) f.cut false (t+e.step) lo (by simp) hp2 hr2 hfr hfge hself (fun h=>by cases h) ht2
     have hno:=o.no rfl
     refine ⟨⟨⟨fun s hs=>?_,List.pairwise_cons.2 ⟨fun s hs=>?_,o.norm.gap⟩⟩,fun _=>⟨cut,_,rfl,by rw [stand_self]; exact Int.le_refl 0,fun s hs=>lt_le hcf (hno s hs)⟩,fun h=>by cases h⟩,fun c=>?_⟩
     ·rcases List.mem_cons.1 hs with rfl | hs
      ·exact (cnt_iff _).2 ⟨l1,hc,l2⟩
      ·exact o.norm.cnt s hs
     ·exact lt_le hcf (hno s hs)
     ·by_cases q1:stand c cut<0
      ·rw [if_pos q1]
       constructor
       ·rintro ⟨s,hs,i⟩
        rcases List.mem_cons.1 hs with rfl | hs
        ·exact ⟨rfl,i.1⟩
        ·exact absurd (le_le (hno s hs) i.1) (lt_not (lt_lt q1 hcf))
       ·rintro ⟨_,i⟩; exact ⟨_,List.mem_cons_self ..,i,q1⟩
      ·rw [if_neg q1,hcov c q1]
       have step:inS (⟨lo,cut⟩ :: go n f.cut false (t+e.step) lo (f :: r)) c↔inS (go n f.cut false (t+e.step) lo (f :: r)) c:=by
        constructor
        ·rintro ⟨s,hs,i⟩
         rcases List.mem_cons.1 hs with rfl | hs
         ·exact absurd i.2 q1
         ·exact ⟨s,hs,i⟩
        ·rintro ⟨s,hs,i⟩; exact ⟨s,List.mem_cons_of_mem _ hs,i⟩
       refine (step.trans (k c)).trans ?_
       by_cases q2:stand c f.cut<0
       ·rw [if_pos q2,hmid c q1 q2]
        constructor
        ·rintro ⟨g,_⟩; cases g
        ·intro g; exact absurd g h2
       ·rw [if_neg q2]
    ·rw [if_neg h2]
     cases was with
     | true =>
      have h3:n≤t+e.step:=by
       by_cases g:n≤t+e.step
       ·exact g
       ·exact absurd ⟨rfl,g⟩ h2
      obtain ⟨l1,l2⟩:=hlo rfl
      obtain ⟨o,k⟩:=go_open n (f :: r) f.cut true (t+e.step) lo (by simp) hp2 hr2 hfr hfge hself (fun _=>⟨l1,lt_lt l2 hcf⟩) ht2
      obtain ⟨h,q,e1,e2,e3⟩:=o.yes rfl
      refine ⟨⟨o.norm,fun _=>⟨h,q,e1,le_le (by omega) e2,fun s hs=>lt_lt hcf (e3 s hs)⟩,fun h=>by cases h⟩,fun c=>(k c).trans ?_⟩
      by_cases q1:stand c cut<0
      ·rw [if_pos q1,if_pos (lt_lt q1 hcf)]
      ·rw [if_neg q1,hcov c q1]
       by_cases q2:stand c f.cut<0
       ·rw [if_pos q2,hmid c q1 q2]
        exact ⟨fun _=>h3,fun _=>⟨rfl,le_le (by omega) (not_lt q1)⟩⟩
       ·rw [if_neg q2]
     | false =>
      have h3:¬ n≤t+e.step:=fun g=>h1 ⟨g,rfl⟩
      obtain ⟨o,k⟩:=go_open n (f :: r) f.cut false (t+e.step) lo (by simp) hp2 hr2 hfr hfge hself (fun h=>by cases h) ht2
      have hno:=o.no rfl
      refine ⟨⟨o.norm,(fun h=>by cases h),fun _ s hs=>?_⟩,fun c=>(k c).trans ?_⟩
      ·have:=lt_le hcf (hno s hs); omega
      ·by_cases q1:stand c cut<0
       ·rw [if_pos q1,if_pos (lt_lt q1 hcf)]
       ·rw [if_neg q1,hcov c q1]
        by_cases q2:stand c f.cut<0
        ·rw [if_pos q2,hmid c q1 q2]
         constructor
         ·rintro ⟨g,_⟩; cases g
         ·intro g; exact absurd g h3
        ·rw [if_neg q2]
theorem sweep_norm {n:Int} (hn:0<n) {l:List Edge} (hp:l.Pairwise fun x y=>stand x.cut y.cut≤0) (hr:∀ e ∈ l,right e.cut=true) (ht:total l<n) :
  Norm (sweepL n l)∧∀ c,inS (sweepL n l) c↔n≤cov l c:=by
 cases l with
 | nil =>
  refine ⟨Norm.nil,fun c=>⟨(fun ⟨s,hs,_⟩=>by cases hs),fun h=>?_⟩⟩
  rw [cov_nil] at h; omega
 | cons e r =>
  have hd:decide (n≤0)=false:=decide_eq_false (by omega)
  have hge:∀ x ∈ e :: r,stand e.cut x.cut≤0:=fun x hx=>by
   rcases List.mem_cons.1 hx with rfl | hx
   ·rw [stand_self]; exact Int.le_refl 0
   ·exact sorted_ge hp x hx
  unfold sweepL
  rw [hd]
  obtain ⟨o,k⟩:=go_open n (e :: r) e.cut false 0 low (by simp) hp hr (hr e (List.mem_cons_self ..)) hge ⟨e,r,rfl,stand_self _⟩ (fun h=>by cases h) (by omega)
  refine ⟨o.norm,fun c=>(k c).trans ?_⟩
  by_cases q:stand c e.cut<0
  ·rw [if_pos q,cov_none fun x hx=>lt_le q (hge x hx)]
   constructor
   ·rintro ⟨g,_⟩; cases g
   ·intro g; omega
  ·rw [if_neg q]; omega
def nextL (n t:Int) (lo:Cut):List Edge→List Sp
 | []=>[]
 | e :: r=>go n e.cut (decide (n≤t)) t lo (e :: r)
theorem sweepL_next (n:Int) (l:List Edge):sweepL n l=nextL n 0 low l:=by cases l <;> rfl
theorem go_like {n:Int} {cut lo:Cut} {was:Bool} {t:Int} {e f:Edge} {r:List Edge} (h:stand cut f.cut=0):go n cut was t lo (e :: f :: r)=go n cut was (t+e.step) lo (f :: r):=by
 rw [go,if_pos h]
def Ends (cut:Cut) (r:List Edge):Prop:=r=[]∨∃ f q,r=f :: q∧stand cut f.cut≠0
theorem go_open_ {n:Int} {cut lo:Cut} {t:Int} {e:Edge} {r:List Edge} (h:Ends cut r) (h1:n≤t+e.step):go n cut false t lo (e :: r)=nextL n (t+e.step) cut r:=by
 rcases h with rfl | ⟨f,q,rfl,h⟩
 ·rw [go,if_neg (by rintro ⟨g,_⟩; cases g)]; rfl
 ·rw [go,if_neg h,if_pos ⟨h1,rfl⟩]; unfold nextL; rw [decide_eq_true h1]
theorem go_shut {n:Int} {cut lo:Cut} {t:Int} {e:Edge} {r:List Edge} (h:Ends cut r) (h1:¬ n≤t+e.step):go n cut true t lo (e :: r)=⟨lo,cut⟩ :: nextL n (t+e.step) lo r:=by
 rcases h with rfl | ⟨f,q,rfl,h⟩
 ·rw [go,if_pos ⟨rfl,h1⟩]; rfl
 ·rw [go,if_neg h,if_neg (fun g=>h1 g.1),if_pos ⟨rfl,h1⟩]; unfold nextL; rw [decide_eq_false h1]
theorem go_same {n:Int} {cut lo:Cut} {was:Bool} {t:Int} {e:Edge} {r:List Edge} (h:Ends cut r) (h1:decide (n≤t+e.step)=was):go n cut was t lo (e :: r)=nextL n (t+e.step) lo r:=by
 have h2:¬ (was=true∧¬ n≤t+e.step):=by rintro ⟨rfl,g⟩; exact g (of_decide_eq_true h1)
 have h3:¬ (n≤t+e.step∧was=false):=by rintro ⟨g,rfl⟩; exact of_decide_eq_false h1 g
 rcases h with rfl | ⟨f,q,rfl,h⟩
 ·rw [go,if_neg h2]; rfl
 ·rw [go,if_neg h,if_neg h3,if_neg h2]; unfold nextL; rw [h1]
end Go.Proofs.YtgakcdcfblgagaaGreatDoor.Span
namespace Go.Proofs.YtgakcdcfblgagaaGreatDoor.Range
open Go.RowKit Num Ident Semver

theorem ofVersion_any (k:Int) (w:World):Calls Tryz.prog 194 #[.int .i64 k] w fun e w'=>e=.returned (.bool (ofVersion k))∧w'=w:=by
 unfold ofVersion
 go_enter Tryz.func194,Tryz.ntmps194
 by_cases h1:1≤k
 ·by_cases h2:k≤8
  ·go_wp2; go_ret
   exact ⟨by simp [h1,h2],rfl⟩
  ·go_wp2; go_ret
   exact ⟨by simp [h2],rfl⟩
 ·go_wp2; go_ret
  exact ⟨by simp; omega,rfl⟩
theorem bracketed_any (o k:Int) (w:World):Calls Tryz.prog 152 #[.int .i64 o,.int .i64 k] w fun e w'=>e=.returned (.bool (bracketed o k))∧w'=w:=by
 unfold bracketed
 go_enter Tryz.func152,Tryz.ntmps152
 by_cases h1:k=10
 ·go_wp2; go_ret
  exact ⟨by simp [h1],rfl⟩
 ·by_cases h2:k=9
  ·by_cases h3:o=10
   ·go_wp2; go_ret
    exact ⟨by simp [h2,h3],rfl⟩
   ·go_wp2; go_ret
    exact ⟨by simp [h2,h3],rfl⟩
  ·go_wp2; go_ret
   exact ⟨by simp [h1,h2],rfl⟩
theorem opens_any (o k:Int) (w:World):Calls Tryz.prog 212 #[.int .i64 o,.int .i64 k] w fun e w'=>e=.returned (.int .i64 (opens o k))∧w'=w:=by
 have HO:Hid (opens o k=(if o=11 then 1 else 0)+(if bracketed o k=true then 1 else 0)):=rfl
 go_enter Tryz.func212,Tryz.ntmps212
 by_cases h1:o=11
 ·subst h1
  go_wp2_with fail
  refine (bracketed_any 11 k _).mono ?_
  rintro e w' ⟨rfl,rfl⟩
  cases hb:bracketed 11 k with
  | true=>go_wp2; go_ret; exact ⟨by rw [HO.out,hb]; rfl,rfl⟩
  | false=>go_wp2; go_ret; exact ⟨by rw [HO.out,hb]; rfl,rfl⟩
 ·go_wp2_with fail
  refine (bracketed_any o k _).mono ?_
  rintro e w' ⟨rfl,rfl⟩
  cases hb:bracketed o k with
  | true=>go_wp2; go_ret; exact ⟨by rw [HO.out,hb,if_neg h1]; rfl,rfl⟩
  | false=>go_wp2; go_ret; exact ⟨by rw [HO.out,hb,if_neg h1]; rfl,rfl⟩
end Go.Proofs.YtgakcdcfblgagaaGreatDoor.Range
