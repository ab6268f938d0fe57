/-
  What the theorem of the last text needs of these: SvFore, RgFore, RgLt, KRow, RgWeak, RgGood, PrRefFull, PrCmp. Conditions: as each theorem states.
-/
import Derived.Test.YtnpjklaaokiikaaGreatDoorPlA1
import Derived.Test.YtnpjklaaokiikaaGreatDoorPlA2
import Derived.Test.YtnpjklaaokiikaaGreatDoorPlA4
import Derived.Test.YtnpjklaaokiikaaGreatDoorPlA5
import Derived.Test.YtnpjklaaokiikaaGreatDoorPlA6
import Derived.Test.YtnpjklaaokiikaaGreatDoorPlA7
import Derived.Test.YtnpjklaaokiikaaGreatDoorPlA8
import Derived.WalkSmall
import Derived.Laws.OwnMore
import Derived.StillTailTactics
import Derived.Deep.CutBlock
import Derived.Deep.DeepCutAuto
import Derived.Deep.RegionHeld3
set_option maxRecDepth 100000
set_option maxHeartbeats 25600000
namespace Go.Proofs.YtnpjklaaokiikaaGreatDoor.Semver
open Num Ident

theorem run_cat:∀ (d r:List UInt8),AllDig d→(∀ b t,r=b :: t→isDig b=false)→run (d ++ r)=d.length
 | [],r,_,h=>by
  cases r with
  | nil=>rfl
  | cons b t=>rw [List.nil_append,run,h b t rfl]; rfl
 | b :: d,r,hd,h=>by
  rw [allDig_cons] at hd
  rw [List.cons_append,run,if_pos hd.1,run_cat d r hd.2 h]; rfl
theorem parse_cat (a d r:List UInt8) (hd:isNum d=true) (hv:val d≤maxField) (hr:∀ b t,r=b :: t→isDig b=false):parse (a ++ (d ++ r)) (a.length:Int)=(val d,d.length,0):=by
 have h:=(isNum_iff d).1 hd
 have hdrop:(a ++ (d ++ r)).drop a.length=d ++ r:=by simp
 have e:=parse_at (a ++ (d ++ r)) a.length (by simp) d (by rw [hdrop,run_cat d r (all_of_run h.2.1) hr]; simp)
 rw [e,if_neg (by omega),if_neg (by rw [h.2.2]; simp),if_neg (by omega)]
theorem parse_dec (a r:List UInt8) (x:Nat) (hx:x≤maxField) (hr:∀ b t,r=b :: t→isDig b=false):parse (a ++ (Lib.decDigits x ++ r)) (a.length:Int)=(x,(Lib.decDigits x).length,0):=by
 rw [parse_cat a _ r (dec_num x) (by rw [dec_val]; exact hx) hr,dec_val]
theorem point_cat (a r:List UInt8):point (a ++ 46 :: r) a.length=0:=by
 refine point_yes (by simp) ?_
 have:=byteAt_place a (46 :: r) 0
 rw [Nat.add_zero] at this
 rw [this]; rfl
theorem core2_cat (a r:List UInt8) (x y z:Nat) (hz:z≤maxField) (hr:∀ b t,r=b :: t→isDig b=false):core2 (a ++ (Lib.decDigits z ++ r)) x y a.length=(0,a.length+(Lib.decDigits z).length,x,y,z):=by
 unfold core2
 rw [parse_dec a r z hz hr]; rfl
theorem stop46 (r:List UInt8):∀ b t,(46:UInt8) :: r=b :: t→isDig b=false:=by
 intro b t h
 injection h with h
 rw [← h]; decide
theorem core1_cat (a r:List UInt8) (x y z:Nat) (hy:y≤maxField) (hz:z≤maxField) (hr:∀ b t,r=b :: t→isDig b=false) :
  core1 (a ++ (Lib.decDigits y ++ 46 :: (Lib.decDigits z ++ r))) x a.length=(0,a.length+(Lib.decDigits y).length+1+(Lib.decDigits z).length,x,y,z):=by
 have e1:a ++ (Lib.decDigits y ++ 46 :: (Lib.decDigits z ++ r))=(a ++ Lib.decDigits y) ++ 46 :: (Lib.decDigits z ++ r):=by simp
 have e2:a ++ (Lib.decDigits y ++ 46 :: (Lib.decDigits z ++ r))=(a ++ Lib.decDigits y ++ [46]) ++ (Lib.decDigits z ++ r):=by simp
 have h1:=point_cat (a ++ Lib.decDigits y) (Lib.decDigits z ++ r)
 have h2:=core2_cat (a ++ Lib.decDigits y ++ [46]) r x y z hz hr
 rw [← e1,List.length_append] at h1
 rw [← e2] at h2
 simp only [List.length_append,List.length_singleton] at h2
 unfold core1
 rw [parse_dec a _ y hy (stop46 _)]
 simp only [ne_eq,not_true_eq_false,if_false]
 unfold after2
 rw [h1]
 simp only [ne_eq,not_true_eq_false,if_false]
 exact h2
theorem core_cat (r:List UInt8) (x y z:Nat) (hx:x≤maxField) (hy:y≤maxField) (hz:z≤maxField) (hr:∀ b t,r=b :: t→isDig b=false) :
  core (Lib.decDigits x ++ 46 :: (Lib.decDigits y ++ 46 :: (Lib.decDigits z ++ r))) 0=(0,(Lib.decDigits x).length+1+(Lib.decDigits y).length+1+(Lib.decDigits z).length,x,y,z):=by
 have e2:Lib.decDigits x ++ 46 :: (Lib.decDigits y ++ 46 :: (Lib.decDigits z ++ r))=(Lib.decDigits x ++ [46]) ++ (Lib.decDigits y ++ 46 :: (Lib.decDigits z ++ r)):=by simp
 have h0:=parse_dec [] (46 :: (Lib.decDigits y ++ 46 :: (Lib.decDigits z ++ r))) x hx (stop46 _)
 have h1:=point_cat (Lib.decDigits x) (Lib.decDigits y ++ 46 :: (Lib.decDigits z ++ r))
 have h2:=core1_cat (Lib.decDigits x ++ [46]) r x y z hy hz hr
 rw [← e2] at h2
 simp only [List.length_append,List.length_singleton] at h2
 rw [List.nil_append,List.length_nil] at h0
 unfold core
 rw [h0]
 simp only [ne_eq,not_true_eq_false,if_false,Nat.zero_add]
 unfold after1
 rw [h1]
 simp only [ne_eq,not_true_eq_false,if_false]
 exact h2

theorem go_cat {pre:Bool} (r:List UInt8) (hr:∀ b t,r=b :: t→isId b=false∧b.toNat≠46):∀ (xs:List (List UInt8)) (acc:List (List UInt8)) (n:Nat),xs≠[]→goodFrom pre xs acc.length=true→go pre (joined xs ++ r) [] acc n=(0,n+(joined xs).length,acc ++ xs)
 | [],_,_,h,_=>absurd rfl h
 | [x],acc,n,_,h=>by
  rw [goodFrom,Bool.and_eq_true,Bool.and_eq_true,beq_iff_eq,beq_iff_eq] at h
  rw [joined_one,go_ids x r [] acc n (lead_full.1 h.1.2),List.nil_append]
  cases r with
  | nil=>rw [go,shut,if_pos h.1.1]
  | cons b t=>rw [go_else (hr b t rfl).1 (hr b t rfl).2,shut,if_pos h.1.1]
 | x :: y :: s,acc,n,_,h=>by
  rw [goodFrom,Bool.and_eq_true,Bool.and_eq_true,beq_iff_eq,beq_iff_eq] at h
  have h2:goodFrom pre (y :: s) (acc ++ [x]).length=true:=by rw [List.length_append]; exact h.2
  rw [joined_cons,List.append_assoc,go_ids x _ [] acc n (lead_full.1 h.1.2),List.nil_append,List.cons_append,go_point (by decide) h.1.1,go_cat r hr (y :: s) (acc ++ [x]) _ (by simp) h2]
  simp; omega
theorem row_cat {pre:Bool} (a r:List UInt8) (xs:List (List UInt8)) (hr:∀ b t,r=b :: t→isId b=false∧b.toNat≠46) (h0:xs≠[]) (h:goodFrom pre xs 0=true):row (a ++ (joined xs ++ r)) (a.length:Int) pre=(0,(joined xs).length,xs):=by
 have hdrop:(a ++ (joined xs ++ r)).drop a.length=joined xs ++ r:=by simp
 have h1:¬ ((a.length:Int)<0∨((a ++ (joined xs ++ r)).length:Int)<(a.length:Int)):=by simp only [List.length_append]; omega
 unfold row
 rw [if_neg h1,Int.toNat_natCast,hdrop]
 have:=go_cat (pre:=pre) r hr xs [] 0 h0 h
 simpa using this
theorem rowAt_cat (a r:List UInt8) (xs:List (List UInt8)) (m:Nat) (mb:UInt8) (hm:m=mb.toNat) (hr:∀ b t,r=b :: t→isId b=false∧b.toNat≠46∧b≠mb) (h:goodFrom (m == 45) xs 0=true) :
  rowAt (a ++ (rowText mb xs ++ r)) a.length m=(0,a.length+(rowText mb xs).length,xs):=by
 by_cases h0:xs=[]
 ·subst h0
  rw [rowText_none rfl,List.nil_append]
  refine rowAt_none ?_
  cases r with
  | nil=>left; simp
  | cons b t =>
   right
   have hb:=(hr b t rfl).2.2
   have:=byteAt_place a (b :: t) 0
   rw [Nat.add_zero] at this
   rw [this,hm]
   intro e
   apply hb
   have e2:(b.toNat:Int)=(mb.toNat:Int):=e
   exact UInt8.toNat_inj.1 (by omega)
 ·have hl:xs.length≠0:=fun e=>h0 (List.eq_nil_of_length_eq_zero e)
  rw [rowText_some hl]
  have e1:a ++ ([mb] ++ joined xs ++ r)=a ++ (mb :: (joined xs ++ r)):=by simp
  have e2:a ++ ([mb] ++ joined xs ++ r)=(a ++ [mb]) ++ (joined xs ++ r):=by simp
  have hrow:=row_cat (pre:=(m == 45)) (a ++ [mb]) r xs (fun b t e=>⟨(hr b t e).1,(hr b t e).2.1⟩) h0 h
  rw [← e2,List.length_append,List.length_singleton] at hrow
  have hbyte:byteAt (a ++ ([mb] ++ joined xs ++ r)) a.length=(m:Int):=by
   have:=byteAt_place a (mb :: (joined xs ++ r)) 0
   rw [Nat.add_zero] at this
   rw [e1,this,hm]; rfl
  rw [rowAt_some (by simp) hbyte,hrow]
  simp only [List.length_append,List.length_singleton,Nat.add_assoc]

theorem rowText_stop (xs:List (List UInt8)):∀ b t,rowText 43 xs=b :: t→isId b=false∧b.toNat≠46∧b≠45:=by
 intro b t h
 unfold rowText at h
 split at h
 ·cases h
 ·injection h with h
  rw [← h]; decide
theorem rows_stop (xs ys:List (List UInt8)):∀ b t,rowText 45 xs ++ (rowText 43 ys ++ [])=b :: t→isDig b=false:=by
 intro b t h
 by_cases h0:xs.length=0
 ·rw [rowText_none h0,List.nil_append,List.append_nil] at h
  have h1:=(rowText_stop ys b t h).1
  by_cases h2:isDig b=true
  ·unfold isId at h1; rw [h2] at h1; simp at h1
  ·simpa using h2
 ·rw [rowText_some h0] at h
  simp only [List.cons_append] at h
  injection h with h
  rw [← h]; decide

theorem text_read {v:Ver} (h:goodV v=true):vread (vtext v)=(0,0,v):=by
 unfold goodV at h
 rw [Bool.and_eq_true,Bool.and_eq_true] at h
 obtain ⟨h1,h2,h3⟩:=h
 have hh:=of_decide_eq_true h1
 obtain ⟨L1,hL1⟩:∃ L,(Lib.decDigits v.a).length+1+(Lib.decDigits v.b).length+1+(Lib.decDigits v.c).length=L:=⟨_,rfl⟩
 have c1:=core_cat (rowText 45 v.pre ++ (rowText 43 v.build ++ [])) v.a v.b v.c hh.1 hh.2.1 hh.2.2 (rows_stop v.pre v.build)
 rw [hL1] at c1
 obtain ⟨a,ha⟩:∃ a,Lib.decDigits v.a ++ [46] ++ Lib.decDigits v.b ++ [46] ++ Lib.decDigits v.c=a:=⟨_,rfl⟩
 have hal:a.length=L1:=by rw [← ha,← hL1]; simp; omega
 have e0:vtext v=a ++ (rowText 45 v.pre ++ (rowText 43 v.build ++ [])):=by unfold vtext; rw [ha]; simp
 have e1:Lib.decDigits v.a ++ 46 :: (Lib.decDigits v.b ++ 46 :: (Lib.decDigits v.c ++ (rowText 45 v.pre ++ (rowText 43 v.build ++ []))))=vtext v:=by rw [e0,← ha]; simp
 have r1:=rowAt_cat a (rowText 43 v.build ++ []) v.pre 45 45 rfl (fun b t e=>rowText_stop v.build b t (by rw [List.append_nil] at e; exact e)) h2
 have e2:vtext v=(a ++ rowText 45 v.pre) ++ (rowText 43 v.build ++ []):=by rw [e0]; simp
 have r2:=rowAt_cat (a ++ rowText 45 v.pre) [] v.build 43 43 rfl (fun b t e=>by cases e) h3
 rw [e1] at c1
 rw [← e0,hal] at r1
 rw [← e2,List.length_append,hal] at r2
 have hlen:(vtext v).length=L1+(rowText 45 v.pre).length+(rowText 43 v.build).length:=by rw [e2]; simp [hal]; omega
 have hp:vparse (vtext v) 0=(0,L1+(rowText 45 v.pre).length+(rowText 43 v.build).length,v):=by
  unfold vparse
  rw [if_neg (by omega),Int.toNat_zero]
  unfold inside
  rw [c1]
  simp only [ne_eq,not_true_eq_false,if_false]
  unfold tail1
  rw [r1]
  simp only [ne_eq,not_true_eq_false,if_false]
  unfold tail2
  rw [r2]
  simp only [ne_eq,not_true_eq_false,if_false]
 unfold vread
 rw [hp]
 simp [hlen]
end Go.Proofs.YtnpjklaaokiikaaGreatDoor.Semver
namespace Go.Proofs.YtnpjklaaokiikaaGreatDoor.Range
open Num Ident Semver

theorem sameV_eq {u v:Ver} (h:sameV u v=true):u=v:=by
 unfold sameV at h
 rw [Bool.and_eq_true,Bool.and_eq_true,decide_eq_true_eq,sameB_iff,sameB_iff] at h
 obtain ⟨a,b,c,p,q⟩:=u
 obtain ⟨a',b',c',p',q'⟩:=v
 obtain ⟨⟨h1,h2,h3⟩,h4,h5⟩:=h
 simp only at h1 h2 h3 h4 h5
 rw [h1,h2,h3,h4,h5]
theorem good_cases {kind:Int} {v:Ver} {l:List Rng} {d:Nat} (h:goodR (.mk kind v l) d=true) :
  d≤64∧goodL kind l d=true∧((1≤kind∧kind≤8∧goodV v=true∧l=[])∨(v=noVer∧((kind=0∧l=[])∨((kind=9∨kind=10)∧2≤l.length)∨(kind=11∧∃ x,l=[x])))):=by
 rw [goodR_eq,Bool.and_eq_true,Bool.and_eq_true,decide_eq_true_eq] at h
 refine ⟨h.1.1,h.2,?_⟩
 have hf:=h.1.2
 unfold fits at hf
 by_cases h1:ofVersion kind=true
 ·rw [if_pos h1,Bool.and_eq_true,decide_eq_true_eq] at hf
  unfold ofVersion at h1
  rw [decide_eq_true_eq] at h1
  exact .inl ⟨h1.1,h1.2,hf.1,List.eq_nil_of_length_eq_zero hf.2⟩
 ·rw [if_neg h1] at hf
  by_cases h2:sameV v noVer=false
  ·rw [if_pos h2] at hf; cases hf
  ·rw [if_neg h2] at hf
   refine .inr ⟨sameV_eq (by simpa using h2),?_⟩
   by_cases h3:kind=0
   ·rw [if_pos h3,decide_eq_true_eq] at hf; exact .inl ⟨h3,List.eq_nil_of_length_eq_zero hf⟩
   ·rw [if_neg h3] at hf
    by_cases h4:kind=9∨kind=10
    ·rw [if_pos h4,decide_eq_true_eq] at hf; exact .inr (.inl ⟨h4,hf⟩)
    ·rw [if_neg h4] at hf
     by_cases h5:kind=11
     ·rw [if_pos h5,decide_eq_true_eq] at hf
      exact .inr (.inr ⟨h5,List.length_eq_one_iff.1 hf⟩)
     ·rw [if_neg h5] at hf; cases hf
theorem size_mem {x:Rng} {kind:Int} {v:Ver} {l:List Rng} (h:x ∈ l):SizeOf.sizeOf x<SizeOf.sizeOf (Rng.mk kind v l):=by
 have:=List.sizeOf_lt_of_mem h
 rw [Rng.mk.sizeOf_spec]; omega
theorem goodL_mem {o:Int} {x:Rng}:∀ {l:List Rng} {d:Nat},goodL o l d=true→x ∈ l→goodR x (d+opens o x.kind)=true
 | [],_,_,h=>by cases h
 | r :: rs,d,hg,h=>by
  rw [goodL_cons,Bool.and_eq_true] at hg
  rcases List.mem_cons.1 h with rfl | h
  ·exact hg.1
  ·exact goodL_mem hg.2 h

structure Reads (r:Rng) (k:Nat) (rest:List UInt8):Prop where
 one:r.kind≠9→r.kind≠10→pone k (textR r ++ rest)=(0,blanks rest,r)
 every:r.kind≠10→furO (blanks rest)=none→everyF (pone k) (textR r ++ rest)=(0,blanks rest,r)
 expr:furO (blanks rest)=none→furE (blanks rest)=none→exprF (pone k) (textR r ++ rest)=(0,blanks rest,r)
end Go.Proofs.YtnpjklaaokiikaaGreatDoor.Range
namespace Go.Proofs.YtnpjklaaokiikaaGreatDoor.Range
open Go.RowKit Num Ident Semver
def LtB (B g:Nat):Prop:=g<B
theorem RgRow.one {w:World} {S:Nat→Prop} {L:Option Addr} {n:Nat} {l:List Rng} (h:RgRow w S L n l) {j:Nat} (hj:j<n):∃ b o x,L=some ⟨b,o,none⟩∧S b∧CellsAt w b (o+j * 7) x∧Lies w S (l.getD j noRng) x:=by
 obtain ⟨f,_,h2,h3⟩:=h
 obtain ⟨b,o,e,hb,hc⟩:=h2 (by omega)
 exact ⟨b,o,f j,e,hb,hc j hj,h3 j hj⟩
theorem arr_lit (t:Array Value) (n:Nat) (h:t.size=n):t=((List.range n).map fun i=>t.getD i undef).toArray:=by
 apply Array.ext
 ·simp [h]
 ·intro i h1 h2
  simp [Array.getD,h1]
end Go.Proofs.YtnpjklaaokiikaaGreatDoor.Range
namespace Go.Proofs.YtnpjklaaokiikaaGreatDoor.KR
open Go.RowKit Num
open Range (KeepS LtB InS)

def KRow {α:Type} [Inhabited α] (vals:α→List Value) (k:Nat) (w:World) (S:Nat→Prop) (A:Option Addr) (n:Nat) (l:List α):Prop :=
 l.length=n∧(0<n→∃ b o,A=some ⟨b,o,none⟩∧S b∧b<w.heap.size∧∀ j,j<n→∀ i u,(vals (l.getD j default))[i]?=some u→w.cell? ⟨b,o+j * k+i,none⟩=some u)
section
variable {α:Type} [Inhabited α] {vals:α→List Value} {k:Nat} {w w':World} {S:Nat→Prop} {A:Option Addr} {n:Nat} {l:List α}
theorem KRow.none_ (w:World) (S:Nat→Prop) (A:Option Addr):KRow vals k w S A 0 []:=⟨rfl,fun h=>absurd h (Nat.lt_irrefl _)⟩
theorem KRow.keep (h:KRow vals k w S A n l) (q:KeepS S w w'):KRow vals k w' S A n l:=by
 refine ⟨h.1,fun h0=>?_⟩
 obtain ⟨b,o,e,hb,hlt,hc⟩:=h.2 h0
 exact ⟨b,o,e,hb,Nat.lt_of_lt_of_le hlt q.size,fun j hj i u hu=>q.cell _ _ _ hb (hc j hj i u hu)⟩
theorem KRow.mono {S':Nat→Prop} (h:KRow vals k w S A n l) (hS:∀ b,S b→b<w.heap.size→S' b):KRow vals k w S' A n l:=by
 refine ⟨h.1,fun h0=>?_⟩
 obtain ⟨b,o,e,hb,hlt,hc⟩:=h.2 h0
 exact ⟨b,o,e,hS b hb hlt,hlt,hc⟩
theorem KRow.nil (h:KRow vals k w S none n l):n=0∧l=[]:=by
 rcases Nat.eq_zero_or_pos n with h0 | h0
 ·exact ⟨h0,List.eq_nil_of_length_eq_zero (by rw [h.1]; exact h0)⟩
 ·obtain ⟨b,o,e,_⟩:=h.2 h0
  cases e
theorem KRow.at_ (h:KRow vals k w S A n l) {j:Nat} (hj:j<n):∃ b o,A=some ⟨b,o,none⟩∧S b∧b<w.heap.size∧∀ i u,(vals (l.getD j default))[i]?=some u→w.cell? ⟨b,o+j * k+i,none⟩=some u:=by
 obtain ⟨b,o,e,hb,hlt,hc⟩:=h.2 (by omega)
 exact ⟨b,o,e,hb,hlt,hc j hj⟩
theorem KRow.mem (h:KRow vals k w S A n l) {j:Nat} (hj:j<n):l.getD j default ∈ l:=by
 rw [List.getD_eq_getElem?_getD,List.getElem?_eq_getElem (by rw [h.1]; exact hj)]; exact List.getElem_mem _
theorem KRow.news {ad:Addr} (hk:∀ x,(vals x).length=k) (hk0:0<k) (h:KRow vals k w S (some ad) n l):∀ j u,(l.flatMap vals)[j]?=some u→w.cell? (ad.add j)=some u:=by
 intro j u hu
 have hj:j<l.length * k:=by have:=(List.getElem?_eq_some_iff.1 hu).1; rwa [flat_len vals k hk] at this
 have hd:j / k<l.length:=Nat.div_lt_of_lt_mul (by rw [Nat.mul_comm]; exact hj)
 obtain ⟨b,o,e,_,_,hc⟩:=h.2 (Nat.lt_of_le_of_lt (Nat.zero_le _) (h.1 ▸ hd))
 injection e with e
 subst e
 have hs:j=(j / k) * k+j % k:=by rw [Nat.mul_comm]; exact (Nat.div_add_mod j k).symm
 rw [hs,flat_get vals k hk l (j / k) (j % k) hd (Nat.mod_lt _ hk0)] at hu
 have:=hc (j / k) (by rw [← h.1]; exact hd) (j % k) u hu
 rw [add_none]
 rw [Nat.add_assoc,← hs] at this
 exact this
theorem KRow.of_own {base:Nat} {e:TypeId} {v:Value} (hk:∀ x,(vals x).length=k) (h:w.ownsRow base e k v n (l.flatMap vals)) (hl:l.length=n) (hS:∀ g,base≤g→g<w.heap.size→S g) :
  ∃ A c,v=.slice A n c∧n≤c∧(A=none→c=0)∧KRow vals k w S A n l:=by
 obtain ⟨A,c,h1,h2,h3,h4⟩:=own_cells hk h hl
 refine ⟨A,c,h1,h2,h3,hl,fun h0=>?_⟩
 obtain ⟨g,e1,hg,hlt,_,hc⟩:=h4 h0
 exact ⟨g,0,e1,hS g hg hlt,hlt,hc⟩
end
theorem run_append_k {α:Type} [Inhabited α] {vals:α→List Value} {k bytes:Nat} {T E:TypeId} {z:Value} (hT:Tryz.prog.underlying T=some (.slice E)) (hI:(Tryz.prog.info? E).map (fun i=>(i.zero,i.size,i.bytes))=some (some z,k,bytes)) (hz:z.cells.size=k) (hk:∀ x,(vals x).length=k) (hk0:0<k) (h1:∀ x,∀ u ∈ vals x,u.oneCell'=true)
  (w:World) (ty:TypeId) (base:Nat) (v:Value) (n:Nat) (l:List α) (hown:w.ownsRow base E k v n (l.flatMap vals)) {S:Nat→Prop} (A:Option Addr) (m c:Nat) (r:List α) (hr:KRow vals k w S A m r) (hnil:A=none→c=0) (hm:n+m≤maxLen) (hb:(n+m) * bytes≤140737488355328) (hbase:base≤w.heap.size) :
  ∃ v' w',(Builtin.append_ #[T,T] ty #[v,.slice A m c]).run Tryz.prog w=.ok v' w'∧w'.ownsRow base E k v' (n+m) ((l ++ r).flatMap vals)∧w.grownBy w' v.ownBlock:=by
 obtain ⟨i,hi,hzi,hs,hby⟩:=info_parts hI
 cases A with
 | none =>
  obtain rfl:=hnil rfl
  obtain ⟨rfl,rfl⟩:=hr.nil
  exact ⟨v,w,run_append_owned_none (P:=Tryz.prog) (w:=w) base T ty E i k hT hi v n _ hown,by simpa using hown,World.grownBy.refl w _⟩
 | some ad =>
  obtain ⟨v',w',h3,h4,h5,_⟩:=run_append_own (P:=Tryz.prog) w base T ty E i z k bytes hT hi hzi hs hby hz hk0 v n _ hown ad m c (r.flatMap vals)
   (by rw [flat_len _ k hk,hr.1]) (hr.news hk hk0) (flat_one _ h1 r) hm hb hbase
  exact ⟨v',w',h3,by rw [List.flatMap_append]; exact h4,h5⟩
structure AtV (W:World) (b:Nat) (L:List Value):Prop where
 lt:b<W.heap.size
 fr:∀ o,W.frozen? ⟨b,o,none⟩=false
 at_:∀ i u,L[i]?=some u→W.cell? ⟨b,i,none⟩=some u
theorem AtV.new (w:World) (t:TypeId) (L:List Value):AtV (w.alloc (.cells L.toArray t)) w.heap.size L :=
 ⟨by simp,fun o=>by simp [go_sem],fun i u hu=>by have:=news_new w L t i u hu; rwa [add_none,Nat.zero_add] at this⟩
theorem AtV.kept {W W':World} {b B:Nat} {L:List Value} (h:AtV W b L) (hb:Below B W W') (hB:b<B):AtV W' b L :=
 ⟨Nat.lt_of_lt_of_le h.lt hb.size,fun o=>(hb.frozen (p:=⟨b,o,none⟩) hB).trans (h.fr o),fun i u hu=>(hb.cell (p:=⟨b,i,none⟩) hB).trans (h.at_ i u hu)⟩
theorem list_of {α:Type} [Inhabited α] {P:Nat→α→Prop}:∀ (n:Nat),(∀ i,i<n→∃ x,P i x)→∃ l:List α,l.length=n∧∀ i,i<n→P i (l.getD i default)
 | 0,_=>⟨[],rfl,fun i hi=>by omega⟩
 | n+1,h=>by
  obtain ⟨l,hl,hp⟩:=list_of n fun i hi=>h i (by omega)
  obtain ⟨x,hx⟩:=h n (by omega)
  refine ⟨l ++ [x],by simp [hl],fun i hi=>?_⟩
  rcases Nat.lt_or_ge i n with h1 | h1
  ·have e:(l ++ [x]).getD i default=l.getD i default:=by simp [List.getD,List.getElem?_append_left (show i<l.length by omega)]
   rw [e]; exact hp i h1
  ·obtain rfl:i=n:=by omega
   have e:(l ++ [x]).getD i default=x:=by simp [List.getD,← hl]
   rw [e]; exact hx
theorem KRow.came {α:Type} [Inhabited α] {vals:α→List Value} {k:Nat} {H:Type} {enc:TypeId × Value→H} {W:World} {T E:TypeId} {P:α→Prop} (hu:Tryz.prog.underlying T=some (.slice E)) (hC:Tryz.prog.cellsOf E=k) (hk:∀ x,(vals x).length=k) (hk0:0<k)
  (hel:∀ (fuel:Nat) (cs:List Value) (y:DataW H × List MemPlace),DataW.trod enc Tryz.prog W 0 (fun _=>true) true fuel E cs=some y→Came.Sized E y.1→∃ x,cs=vals x∧P x)
  {fuel:Nat} {cs:List Value} {y:DataW H × List MemPlace} (hf:DataW.trod enc Tryz.prog W 0 (fun _=>true) true fuel T cs=some y) (hs:Came.Sized T y.1) :
  ∃ (A:Option Addr) (len cap:Nat) (l:List α),cs=[.slice A len cap]∧KRow vals k W (LtB W.heap.size) A len l∧(∀ x ∈ l,P x)∧len≤cap∧cap≤maxLen∧(A=none→cap=0):=by
 rcases DataW.trod_slice hu hf with ⟨hz,_⟩ | ⟨a,len,cap,elems,rest,n2,_,hz,hy,_,hlc,hcm,hle,hi,_,_⟩
 ·exact ⟨none,0,0,[],hz,KRow.none_ _ _ _,fun x hx=>(List.not_mem_nil hx).elim,Nat.le_refl _,by unfold maxLen; omega,fun _=>rfl⟩
 ·rw [hC] at hi
  obtain ⟨ps,hpl,hp⟩:=list_of (α:=α) (P:=fun i (p:α)=>P p∧∀ j u,(vals p)[j]?=some u→W.cell? ((a.add (i * k)).add j)=some u) len fun i hi'=>by
   have h0:=hi i hi'
   rw [List.getElem?_eq_getElem (show i<elems.length by omega),Option.bind_eq_some_iff] at h0
   obtain ⟨cs,hc,ht⟩:=h0
   obtain ⟨_,hcl,hat⟩:=World.cells?_some hc
   obtain ⟨x,e,ho⟩:=hel n2 cs _ ht (by rw [hy] at hs; exact hs.elem hu (i:=i) (List.getElem?_eq_getElem (show i<elems.length by omega)))
   refine ⟨x,ho,fun j u hu=>?_⟩
   have hj:j<k:=by have:=(List.getElem?_eq_some_iff.1 hu).1; rwa [hk] at this
   rw [hat j hj,e]; exact hu
  refine ⟨some a,len,cap,ps,hz,⟨hpl,fun h0=>?_⟩,fun x hx=>?_,hlc,hcm,fun e=>by cases e⟩
  ·obtain ⟨b,o,spot⟩:=a
   obtain ⟨u,hu⟩:∃ u,(vals (ps.getD 0 default))[0]?=some u:=⟨(vals (ps.getD 0 default))[0]'(by rw [hk]; exact hk0),List.getElem?_eq_getElem _⟩
   have h0c:=(hp 0 h0).2 0 u hu
   have hspot:spot=none:=by simpa [Addr.add] using World.cell?_spot h0c
   subst hspot
   have hblk:=World.block_lt_of_cell? W _ h0c
   rw [Num.add_none,Num.add_none] at hblk
   refine ⟨b,o,rfl,hblk,hblk,fun j hj i u hu=>?_⟩
   have e:=(hp j hj).2 i u hu
   rwa [Num.add_none,Num.add_none] at e
  ·obtain ⟨j,hj,rfl⟩:=List.getElem_of_mem hx
   have:=(hp j (by omega)).1
   simpa [List.getD,List.getElem?_eq_getElem hj] using this
end Go.Proofs.YtnpjklaaokiikaaGreatDoor.KR
namespace Go.Proofs.YtnpjklaaokiikaaGreatDoor.Range
open Go.RowKit Num Ident Semver
inductive Weak (w:World) (S:Nat→Prop):Rng→RV→Prop
 | mk (x:RV) (l:List Rng) (f:Nat→RV) (hn:x.n=l.length) (pre:SRow w x.A x.v.pre.length x.v.pre) (build:SRow w x.B x.v.build.length x.v.build) (ip:InS S x.A x.v.pre.length) (ib:InS S x.B x.v.build.length)
   (fp:x.v.pre.length≤maxLen) (fb:x.v.build.length≤maxLen)
   (cells:0<x.n→∃ b o,x.L=some ⟨b,o,none⟩∧S b∧∀ j,j<x.n→CellsAt w b (o+j * 7) (f j)) (subs:∀ j,j<x.n→Weak w S (l.getD j noRng) (f j)):Weak w S (.mk x.kind x.v l) x
theorem Lies.weak {w:World} {S:Nat→Prop} {r:Rng} {x:RV} (h:Lies w S r x):Weak w S r x:=by
 induction h with
 | mk x l f hn he pre build ip ib cp cb fit nil cells _ ih=>exact Weak.mk x l f hn pre build ip ib fit.pre fit.build cells ih
theorem Weak.keep {w w':World} {S:Nat→Prop} {r:Rng} {x:RV} (h:Weak w S r x) (k:KeepS S w w'):Weak w' S r x:=by
 induction h with
 | mk x l f hn pre build ip ib fp fb cells _ ih =>
  refine Weak.mk x l f hn (srow_keepS pre k ip) (srow_keepS build k ib) ip ib fp fb (fun h0=>?_) ih
  obtain ⟨b,o,e,hb,hc⟩:=cells h0
  exact ⟨b,o,e,hb,fun j hj=>(hc j hj).keep k hb⟩
def WRow (w:World) (S:Nat→Prop) (L:Option Addr) (n:Nat) (l:List Rng):Prop :=
 ∃ f:Nat→RV,l.length=n∧(0<n→∃ b o,L=some ⟨b,o,none⟩∧S b∧∀ j,j<n→CellsAt w b (o+j * 7) (f j))∧∀ j,j<n→Weak w S (l.getD j noRng) (f j)
theorem WRow.one {w:World} {S:Nat→Prop} {L:Option Addr} {n:Nat} {l:List Rng} (h:WRow w S L n l) {j:Nat} (hj:j<n):∃ b o x,L=some ⟨b,o,none⟩∧S b∧CellsAt w b (o+j * 7) x∧Weak w S (l.getD j noRng) x:=by
 obtain ⟨f,_,h2,h3⟩:=h
 obtain ⟨b,o,e,hb,hc⟩:=h2 (by omega)
 exact ⟨b,o,f j,e,hb,hc j hj,h3 j hj⟩
structure WSays (w:World) (S:Nat→Prop) (r:Rng) (x:RV):Prop where
 kind:r.kind=x.kind
 ver:r.ver=x.v
 pre:SRow w x.A x.v.pre.length x.v.pre
 build:SRow w x.B x.v.build.length x.v.build
 fp:x.v.pre.length≤maxLen
 fb:x.v.build.length≤maxLen
 subs:WRow w S x.L x.n r.subs
theorem Weak.says {w:World} {S:Nat→Prop} {r:Rng} {x:RV} (h:Weak w S r x):WSays w S r x:=by
 cases h with
 | mk x l f hn pre build ip ib fp fb cells subs=>exact ⟨rfl,rfl,pre,build,fp,fb,⟨f,hn.symm,cells,subs⟩⟩
end Go.Proofs.YtnpjklaaokiikaaGreatDoor.Range
namespace Go.Proofs.YtnpjklaaokiikaaGreatDoor.Range
open Go.RowKit Num Ident Semver
theorem srow_none (w:World) (A:Option Addr):SRow w A 0 []:=⟨rfl,fun h=>absurd h (Nat.lt_irrefl _)⟩
theorem wtL_len:∀ l:List Rng,l.length≤wtL l
 | []=>Nat.le_refl _
 | r :: l=>by rw [wtL_cons,wt_eq,List.length_cons]; have:=wtL_len l; omega
theorem wt_mem {x:Rng}:∀ {l:List Rng},x ∈ l→wt x≤wtL l
 | [],h=>by cases h
 | y :: l,h=>by
  rw [wtL_cons]
  rcases List.mem_cons.1 h with rfl | h
  ·omega
  ·have:=wt_mem h; omega
theorem right_at {w:World} {S:Nat→Prop} {r:Rng} {x:RV} {d:Nat} (hx:Lies w S r x) (hg:goodR r d=true):d≤64∧goodL r.kind r.subs d=true∧r.subs.length=x.n∧r.kind=x.kind ∧
  ((1≤x.kind∧x.kind≤8∧goodV x.v=true∧x.n=0)∨(x.v=noVer∧((x.kind=0∧x.n=0)∨((x.kind=9∨x.kind=10)∧2≤x.n)∨(x.kind=11∧x.n=1)))):=by
 have hs:=hx.says
 obtain ⟨f,hl,_,_⟩:=hs.subs
 have hk:=hs.kind
 have hv:=hs.ver
 obtain ⟨kind,v,l⟩:=r
 obtain ⟨h1,h2,h3⟩:=good_cases hg
 simp only [Rng.kind,Rng.ver,Rng.subs] at hl hk hv ⊢
 subst hk; subst hv
 refine ⟨h1,h2,hl,rfl,?_⟩
 rcases h3 with ⟨a,b,c,rfl⟩ | ⟨a,⟨b,rfl⟩ | ⟨b,c⟩ | ⟨b,y,rfl⟩⟩
 ·exact .inl ⟨a,b,c,hl.symm⟩
 ·exact .inr ⟨a,.inl ⟨b,hl.symm⟩⟩
 ·exact .inr ⟨a,.inr (.inl ⟨b,hl ▸ c⟩)⟩
 ·exact .inr ⟨a,.inr (.inr ⟨b,hl.symm⟩)⟩
end Go.Proofs.YtnpjklaaokiikaaGreatDoor.Range
namespace Go.Proofs.YtnpjklaaokiikaaGreatDoor.Prec
open Go.RowKit Num Ident Semver
open KR (AtV)

theorem fullV_first {u v:Ver} (h:cmpV u v≠0):fullV u v=cmpV u v:=by unfold fullV lex; rw [if_neg h]
theorem fullV_second {u v:Ver} (h:cmpV u v=0):fullV u v=cmpRows u.build v.build:=by unfold fullV lex; rw [if_pos h]
theorem refFull_all (u v:Ver) (A1 A2 B1 B2:Option Addr) (c1 c2 d1 d2:Nat) (w:World) (r1:SRow w A1 u.pre.length u.pre) (r2:SRow w A2 u.build.length u.build) (q1:SRow w B1 v.pre.length v.pre) (q2:SRow w B2 v.build.length v.build)
  (n1:u.pre.length≤maxLen) (n2:u.build.length≤maxLen) (m1:v.pre.length≤maxLen) (m2:v.build.length≤maxLen) (f1:∀ x ∈ u.pre,x.length≤maxLen) (f2:∀ x ∈ u.build,x.length≤maxLen) (g1:∀ x ∈ v.pre,x.length≤maxLen) (g2:∀ x ∈ v.build,x.length≤maxLen) :
  Calls Tryz.prog 44 #[.agg #[u.a,u.b,u.c,.slice A1 u.pre.length c1,.slice A2 u.build.length c2],.agg #[v.a,v.b,v.c,.slice B1 v.pre.length d1,.slice B2 v.build.length d2]] w fun e w'=>e=.returned (.int .i64 (fullV u v))∧Below w.heap.size w w':=by
 have R1:=Lib.hid r1
 have R2:=Lib.hid r2
 have Q1:=Lib.hid q1
 have Q2:=Lib.hid q2
 have N1:=Lib.hid n1
 have N2:=Lib.hid n2
 have M1:=Lib.hid m1
 have M2:=Lib.hid m2
 have F1:=Lib.hid f1
 have F2:=Lib.hid f2
 have G1:=Lib.hid g1
 have G2:=Lib.hid g2
 clear r1 r2 q1 q2 n1 n2 m1 m2 f1 f2 g1 g2
 obtain ⟨W0,hW,ha,hb,hb0⟩:∃ W,W=((w.alloc (.cells #[u.a,u.b,u.c,.slice A1 u.pre.length c1,.slice A2 u.build.length c2] 34)).alloc (.cells #[v.a,v.b,v.c,.slice B1 v.pre.length d1,.slice B2 v.build.length d2] 34))∧AtV W w.heap.size [.int .u64 u.a,.int .u64 u.b,.int .u64 u.c,.slice A1 u.pre.length c1,.slice A2 u.build.length c2]∧AtV W (w.heap.size+1) [.int .u64 v.a,.int .u64 v.b,.int .u64 v.c,.slice B1 v.pre.length d1,.slice B2 v.build.length d2]∧Below w.heap.size w W:=by
  refine ⟨_,rfl,(AtV.new w 34 [.int .u64 u.a,.int .u64 u.b,.int .u64 u.c,.slice A1 u.pre.length c1,.slice A2 u.build.length c2]).kept ((Below.refl _ _).alloc (Nat.le_refl _) _) (by simp),?_,((Below.refl _ _).alloc (Nat.le_refl _) _).alloc (by simp) _⟩
  have:=AtV.new (w.alloc (.cells #[u.a,u.b,u.c,.slice A1 u.pre.length c1,.slice A2 u.build.length c2] 34)) 34 [.int .u64 v.a,.int .u64 v.b,.int .u64 v.c,.slice B1 v.pre.length d1,.slice B2 v.build.length d2]
  rw [size_alloc] at this; exact this
 have HA:=Lib.hid ha
 have HV:=Lib.hid hb
 have HB0:=Lib.hid hb0
 clear ha hb hb0
 obtain ⟨ub,hub⟩:∃ ub,w.heap.size=ub:=⟨_,rfl⟩
 obtain ⟨vb,hvb⟩:∃ vb,w.heap.size+1=vb:=⟨_,rfl⟩
 rw [hub] at HA
 rw [hvb] at HV
 have HUB:=Lib.hid hub
 have HVB:=Lib.hid hvb
 clear hub hvb
 go_enter Tryz.func44,Tryz.ntmps44
 go_upto_region 1 with (fail)
 rw [← hW,HVB.out,HUB.out]
 clear hW
 have a0:=HA.out.at_ 0 _ rfl
 have a1:=HA.out.at_ 1 _ rfl
 have a2:=HA.out.at_ 2 _ rfl
 have a3:=HA.out.at_ 3 _ rfl
 have a4:=HA.out.at_ 4 _ rfl
 have b0:=HV.out.at_ 0 _ rfl
 have b1:=HV.out.at_ 1 _ rfl
 have b2:=HV.out.at_ 2 _ rfl
 have b3:=HV.out.at_ 3 _ rfl
 have b4:=HV.out.at_ 4 _ rfl
 go_wp2_with fail
 refine (refCompare_all u v A1 A2 B1 B2 c1 c2 d1 d2 _ (R1.out.kept HB0.out) (Q1.out.kept HB0.out) N1.out M1.out F1.out G1.out).mono ?_
 rintro e W1 ⟨rfl,hb1⟩
 have HB1:=Lib.hid (HB0.out.trans (hb1.mono HB0.out.size))
 have HA1:=Lib.hid (HA.out.kept hb1 HA.out.lt)
 have HV1:=Lib.hid (HV.out.kept hb1 HV.out.lt)
 clear hb1 a0 a1 a2 a3 a4 b0 b1 b2 b3 b4 HA HV
 have HF1:=Lib.hid (fun h=>fullV_first (u:=u) (v:=v) h)
 have HF2:=Lib.hid (fun h=>fullV_second (u:=u) (v:=v) h)
 generalize cmpV u v=n at HF1 HF2 ⊢
 by_cases h0:n=0
 ·have HF:=Lib.hid (HF2.out h0)
  subst h0
  have a4:=HA1.out.at_ 4 _ rfl
  have b4:=HV1.out.at_ 4 _ rfl
  go_wp2_with fail
  refine (refRows_all A2 u.build.length c2 u.build B2 v.build.length d2 v.build _ (R2.out.kept HB1.out) (Q2.out.kept HB1.out) N2.out M2.out F2.out G2.out).mono ?_
  rintro e W2 ⟨rfl,hb2⟩
  have HB2:=Lib.hid (HB1.out.trans (hb2.mono HB1.out.size))
  clear hb2 a4 b4
  go_wp2
  go_ret
  exact ⟨by rw [HF.out]; rfl,HB2.out⟩
 ·have HF:=Lib.hid (HF1.out h0)
  have hb:(n != 0)=true:=by simpa using h0
  clear h0
  go_wp2
  go_ret
  exact ⟨by rw [HF.out]; rfl,HB1.out⟩
end Go.Proofs.YtnpjklaaokiikaaGreatDoor.Prec
namespace Go.Proofs.YtnpjklaaokiikaaGreatDoor.Prec
open Go.RowKit Num Ident Semver

def Fit (xs:List (List UInt8)):Prop:=xs.length≤maxLen∧∀ x ∈ xs,x.length≤maxLen
theorem Fit.nil:Fit []:=⟨by unfold maxLen; simp,fun x hx=>by simp at hx⟩
theorem Fit.zero:Fit [[48]]:=⟨by unfold maxLen; simp,fun x hx=>by simp at hx; subst hx; unfold maxLen; simp⟩
theorem releases_anyD (A:Option Addr) (ca:Nat) (xs:List (List UInt8)) (B:Option Addr) (cb:Nat) (ys:List (List UInt8)) (w:World) (hA:SRow w A xs.length xs) (hB:SRow w B ys.length ys) (fx:Fit xs) (fy:Fit ys) :
  Calls Tryz.prog 197 #[.slice A xs.length ca,.slice B ys.length cb] w fun e w'=>e=.returned (.int .i64 (cmpPre xs ys))∧BelowD w.heap.size w w':=by
 have HA:=Lib.hid hA
 have HB:=Lib.hid hB
 have FX:=Lib.hid fx
 have FY:=Lib.hid fy
 have hx:=fx.1
 have hy:=fy.1
 unfold maxLen at hx hy
 clear hA hB fx fy
 by_cases h1:xs.length=0
 ·by_cases h2:ys.length=0
  ·have HF:=Lib.hid (cmpPre_rows (x:=xs) (y:=ys) ⟨fun _=>h2,fun _=>h1⟩)
   have K:Hid (∀ W,W=w→Calls Tryz.prog 146 #[.slice A xs.length ca,.slice B ys.length cb] W fun e w'=>e=.returned (.int .i64 (cmpPre xs ys))∧BelowD w.heap.size w w'):=by
    rintro W rfl; rw [HF.out]; exact rows_anyD A _ ca xs B _ cb ys W HA.out HB.out FX.out.1 FY.out.1 FX.out.2 FY.out.2
   rw [h1,h2] at K
   clear HF
   go_enter Tryz.func197,Tryz.ntmps197
   go_wp2_with fail
   refine (K.out _ rfl).mono ?_
   rintro e w1 ⟨rfl,hb1⟩
   go_wp2
   go_ret
   exact ⟨rfl,hb1⟩
  ·have HF:=Lib.hid (cmpPre_one h1 h2)
   have h3:0<ys.length:=by omega
   go_enter Tryz.func197,Tryz.ntmps197
   go_wp2
   go_ret
   exact ⟨by rw [HF.out]; rfl,BelowD.refl _ _⟩
 ·have h3:0<xs.length:=by omega
  by_cases h2:ys.length=0
  ·have HF:=Lib.hid (cmpPre_two h1 h2)
   go_enter Tryz.func197,Tryz.ntmps197
   go_wp2
   go_ret
   exact ⟨by rw [HF.out]; rfl,BelowD.refl _ _⟩
  ·have h4:0<ys.length:=by omega
   have HF:=Lib.hid (cmpPre_rows (x:=xs) (y:=ys) ⟨fun h=>absurd h h1,fun h=>absurd h h2⟩)
   have K:Hid (∀ W,W=w→Calls Tryz.prog 146 #[.slice A xs.length ca,.slice B ys.length cb] W fun e w'=>e=.returned (.int .i64 (cmpPre xs ys))∧BelowD w.heap.size w w'):=by
    rintro W rfl; rw [HF.out]; exact rows_anyD A _ ca xs B _ cb ys W HA.out HB.out FX.out.1 FY.out.1 FX.out.2 FY.out.2
   clear HF
   go_enter Tryz.func197,Tryz.ntmps197
   go_wp2_with fail
   refine (K.out _ rfl).mono ?_
   rintro e w1 ⟨rfl,hb1⟩
   go_wp2
   go_ret
   exact ⟨rfl,hb1⟩
theorem compare_anyD (u v:Ver) (A1 A2 B1 B2:Option Addr) (c1 c2 d1 d2:Nat) (w:World) (r1:SRow w A1 u.pre.length u.pre) (q1:SRow w B1 v.pre.length v.pre) (f1:Fit u.pre) (g1:Fit v.pre) :
  Calls Tryz.prog 145 #[.agg #[u.a,u.b,u.c,.slice A1 u.pre.length c1,.slice A2 u.build.length c2],.agg #[v.a,v.b,v.c,.slice B1 v.pre.length d1,.slice B2 v.build.length d2]] w fun e w'=>e=.returned (.int .i64 (cmpV u v))∧BelowD w.heap.size w w':=by
 have HB0:Hid (BelowD w.heap.size w ((w.alloc (.cells #[u.a,u.b,u.c,.slice A1 u.pre.length c1,.slice A2 u.build.length c2] 34)).alloc (.cells #[v.a,v.b,v.c,.slice B1 v.pre.length d1,.slice B2 v.build.length d2] 34))):=((BelowD.refl _ _).alloc (Nat.le_refl _) _).alloc (by simp) _
 have K1:Hid (At5 ((w.alloc (.cells #[u.a,u.b,u.c,.slice A1 u.pre.length c1,.slice A2 u.build.length c2] 34)).alloc (.cells #[v.a,v.b,v.c,.slice B1 v.pre.length d1,.slice B2 v.build.length d2] 34)) w.heap.size u.a u.b u.c (.slice A1 u.pre.length c1) (.slice A2 u.build.length c2)):=(At5.new w 34 _ _ _ _ _).kept ((Below.refl _ _).alloc (Nat.le_refl _) _) (by simp)
 have K2:Hid (At5 ((w.alloc (.cells #[u.a,u.b,u.c,.slice A1 u.pre.length c1,.slice A2 u.build.length c2] 34)).alloc (.cells #[v.a,v.b,v.c,.slice B1 v.pre.length d1,.slice B2 v.build.length d2] 34)) (w.heap.size+1) v.a v.b v.c (.slice B1 v.pre.length d1) (.slice B2 v.build.length d2)):=by
  have:=At5.new (w.alloc (.cells #[u.a,u.b,u.c,.slice A1 u.pre.length c1,.slice A2 u.build.length c2] 34)) 34 v.a v.b v.c (.slice B1 v.pre.length d1) (.slice B2 v.build.length d2)
  rw [size_alloc] at this; exact this
 have R1:=Lib.hid r1
 have Q1:=Lib.hid q1
 have F1:=Lib.hid f1
 have G1:=Lib.hid g1
 clear r1 q1 f1 g1
 have HF:Hid (cmpV u v=if cmpCore u v=0 then cmpPre u.pre v.pre else cmpCore u v):=rfl
 have HC:Hid (∀ W,Calls Tryz.prog 195 #[.agg #[u.a,u.b,u.c],.agg #[v.a,v.b,v.c]] W fun e w'=>e=.returned (.int .i64 (cmpCore u v))∧BelowD W.heap.size W w'):=fun W=>cores_anyD u v W
 generalize cmpCore u v=c at HF HC
 go_enter Tryz.func145,Tryz.ntmps145
 go_upto_region 1 with (fail)
 generalize ((w.alloc (.cells #[u.a,u.b,u.c,.slice A1 u.pre.length c1,.slice A2 u.build.length c2] 34)).alloc (.cells #[v.a,v.b,v.c,.slice B1 v.pre.length d1,.slice B2 v.build.length d2] 34))=W at HB0 K1 K2 ⊢
 have hz:=K2.out.1
 have hw:=HB0.out.size
 have D0:=Lib.hid (BelowD.refl W.heap.size W).drew
 have D1:=Lib.hid (D0.out.mono (B':=w.heap.size) hw)
 refine wp_region_held_drew (S:=fun w'=>(w'.cell? ⟨w.heap.size,0,none⟩=some (.int .u64 u.a)∧w'.cell? ⟨w.heap.size,1,none⟩=some (.int .u64 u.b)∧w'.cell? ⟨w.heap.size,2,none⟩=some (.int .u64 u.c)∧w'.cell? ⟨w.heap.size,3,none⟩=some (.slice A1 u.pre.length c1)∧w'.cell? ⟨w.heap.size,4,none⟩=some (.slice A2 u.build.length c2))∧(w'.cell? ⟨(w.heap.size+1),0,none⟩=some (.int .u64 v.a)∧w'.cell? ⟨(w.heap.size+1),1,none⟩=some (.int .u64 v.b)∧w'.cell? ⟨(w.heap.size+1),2,none⟩=some (.int .u64 v.c)∧w'.cell? ⟨(w.heap.size+1),3,none⟩=some (.slice B1 v.pre.length d1)∧w'.cell? ⟨(w.heap.size+1),4,none⟩=some (.slice B2 v.build.length d2))) (by kernel_rfl) ⟨K1.out.2.2,K2.out.2.2⟩ (fun hHeld=>?_)
 refine tk 0 rfl (.agg #[u.a,u.b,u.c,.slice A1 u.pre.length c1,.slice A2 u.build.length c2]) ?_
 refine tk 2 rfl (.agg #[v.a,v.b,v.c,.slice B1 v.pre.length d1,.slice B2 v.build.length d2]) ?_
 refine cl 1 rfl fun K hK=>?_
 go_simp
 refine (coreOf_anyD _ _ _ _ _ _).mono ?_
 rintro e w2 ⟨rfl,hb2⟩
 have L1:=Lib.hid ((K1.out.kept D0.out.toBelow (by omega)).kept hb2.toBelow (by simp; omega))
 have L2:=Lib.hid ((K2.out.kept D0.out.toBelow (by omega)).kept hb2.toBelow (by simp; omega))
 have B2:=Lib.hid ((HB0.out.trans D1.out).trans (hb2.mono (by simp; omega)))
 have hz2:W.heap.size≤w2.heap.size:=by have:=hb2.size; simpa using this
 clear hb2
 refine hK.out _ _ ⟨L1.out.2.2,L2.out.2.2⟩ (fun hHeld=>?_)
 clear hK K
 try simp only [Act.put,p1,p2,p3]
 refine cl 3 rfl fun K hK=>?_
 go_simp
 refine (coreOf_anyD _ _ _ _ _ _).mono ?_
 rintro e w3 ⟨rfl,hb3⟩
 have M1:=Lib.hid (L1.out.kept hb3.toBelow (by omega))
 have M2:=Lib.hid (L2.out.kept hb3.toBelow (by omega))
 have B3:=Lib.hid (B2.out.trans (hb3.mono (by omega)))
 have hz3:=hb3.size
 clear hb3
 refine hK.out _ _ ⟨M1.out.2.2,M2.out.2.2⟩ (fun hHeld=>?_)
 clear hK K
 try simp only [Act.put,p1,p2,p3]
 refine cl 4 rfl fun K hK=>?_
 go_simp
 refine (HC.out _).mono ?_
 rintro e w4 ⟨rfl,hb4⟩
 have N1:=Lib.hid (M1.out.kept hb4.toBelow (by omega))
 have N2:=Lib.hid (M2.out.kept hb4.toBelow (by omega))
 have B4:=Lib.hid (B3.out.trans (hb4.mono (by omega)))
 have hz4:=hb4.size
 clear hb4
 refine hK.out _ _ ⟨N1.out.2.2,N2.out.2.2⟩ (fun hHeld=>?_)
 clear hK K
 try simp only [Act.put,p1,p2,p3]
 refine tk 5 rfl (.int .i64 c) ?_
 refine wpAnyH_done (by kernel_rfl) ?_ _
 clear hHeld
 by_cases hc:c=0
 ·have HF2:Hid (cmpPre u.pre v.pre=cmpV u v):=by have:=HF.out; rw [if_pos hc] at this; exact this.symm
  have KR:Hid (∀ W',W'=w4→Calls Tryz.prog 197 #[.slice A1 u.pre.length c1,.slice B1 v.pre.length d1] W' fun e w'=>e=.returned (.int .i64 (cmpV u v))∧BelowD w4.heap.size w4 w'):=by
   rintro W' rfl; rw [← HF2.out]; exact releases_anyD A1 c1 u.pre B1 d1 v.pre W' (R1.out.kept B4.out.toBelow) (Q1.out.kept B4.out.toBelow) F1.out G1.out
  subst hc
  obtain ⟨_,_,x0,x1,x2,x3,x4⟩:=N1.out
  obtain ⟨_,_,y0,y1,y2,y3,y4⟩:=N2.out
  clear HF HF2
  go_wp2_with fail
  refine (KR.out _ rfl).mono ?_
  rintro e w5 ⟨rfl,hb5⟩
  have B5:=Lib.hid (B4.out.trans (hb5.mono (by omega)))
  clear hb5
  go_wp2
  go_ret
  exact ⟨rfl,B5.out⟩
 ·have HF2:Hid (cmpV u v=c):=by have:=HF.out; rw [if_neg hc] at this; exact this
  have hn:(c == 0)=false:=by simp [hc]
  have hn2:(c != 0)=true:=by simp [hc]
  clear HF hc
  go_wp2
  go_ret
  exact ⟨by rw [HF2.out]; rfl,B4.out⟩
end Go.Proofs.YtnpjklaaokiikaaGreatDoor.Prec
