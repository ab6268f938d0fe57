/-
  What the theorem of the last text needs of these: SvCore, SvPlain, IdWalks, RgMath, SvBack, PrMath. Conditions: as each theorem states.
-/
import Derived.Test.YtgakcdcfblgagaaDoorJoA1
import Derived.Test.YtgakcdcfblgagaaDoorJoA2
import Derived.Test.YtgakcdcfblgagaaDoorJoA3
import Derived.Lib.ItoaLen
import Derived.Test.YtgakcdcfblgagaaDoorChecked
import Derived.WalkKit
import Derived.ChangeKeysEq
import Derived.Laws.StructEq
import Derived.StillTailTactics
import Derived.Deep.CutBlock
import Derived.Deep.DeepCutAuto
import Derived.Deep.RegionHeld3
set_option maxRecDepth 100000
set_option maxHeartbeats 25600000
namespace Go.Proofs.YtgakcdcfblgagaaDoor.Semver
open Go.RowKit Num Ident

theorem point_any (A:Option Addr) (n c:Nat) (l:List UInt8) (q:Nat) (w:World) (h:Row w A n l) (hq:q≤n) :
  Calls Tryd.prog 70 #[.slice A n c,.int .i64 q] w fun e w'=>e=.returned (.int .i64 (point l q))∧w=w':=by
 obtain ⟨hl,hm,hc⟩:=h
 unfold maxLen at hm
 have HC:=Lib.hid hc; clear hc
 have HL:=Lib.hid hl; clear hl
 by_cases h0:q=n
 ·have HF:=Lib.hid (point_end (l:=l) (q:=q) (by rw [HL.out]; exact h0))
  subst h0
  have hb:((q:Int) == (q:Int))=true:=by simp
  go_enter Tryd.func70,Tryd.ntmps70
  go_wp2
  go_ret
  exact ⟨by rw [HF.out]; rfl,rfl⟩
 ·have hlt:q<n:=by omega
  have hb:((q:Int) == (n:Int))=false:=by simp; omega
  obtain ⟨b,o,rfl,hbl,hcell⟩:=HC.out (by omega)
  have hx:=hcell q hlt
  clear hcell HC
  have HN:=Lib.hid (point_no (l:=l) (q:=q) (by rw [HL.out]; exact h0))
  have HY:=Lib.hid (point_yes (l:=l) (q:=q) (by rw [HL.out]; exact h0))
  have hbd:=byteAt_bd l q
  generalize byteAt l q=x at hx hbd HN HY
  clear h0
  by_cases h46:x=46
  ·have HF:=Lib.hid (HY.out h46)
   have h1:(x != 46)=false:=by simp [h46]
   clear h46 HN HY
   go_enter Tryd.func70,Tryd.ntmps70
   go_wp2
   go_ret
   exact ⟨by rw [HF.out]; rfl,rfl⟩
  ·have HF:=Lib.hid (HN.out h46)
   have h1:(x != 46)=true:=by simp [h46]
   clear h46 HN HY
   go_enter Tryd.func70,Tryd.ntmps70
   go_wp2
   go_ret
   exact ⟨by rw [HF.out]; rfl,rfl⟩

def coreOut (k:Core):Value:=.tuple #[.agg #[.int .u64 k.2.2.1,.int .u64 k.2.2.2.1,.int .u64 k.2.2.2.2],.int .i64 k.2.1,.int .i64 k.1]

def CoreAt (w:World) (l:List UInt8) (p q i:Nat) (w':World):Prop :=
 (i=0∧w'=(w.alloc (.cells #[.int .u64 0,.int .u64 0,.int .u64 0] 129))∧core l q=core l p) ∨
 (i=1∧∃ x:Nat,w'=(w.alloc (.cells #[.int .u64 x,.int .u64 0,.int .u64 0] 129))∧core1 l x q=core l p) ∨
 (i=2∧∃ x y:Nat,w'=(w.alloc (.cells #[.int .u64 x,.int .u64 y,.int .u64 0] 129))∧core2 l x y q=core l p)
def CoreJ (w:World) (A:Option Addr) (n c:Nat) (l:List UInt8) (p:Nat) (a':Act) (w':World):Prop :=
 ∃ (q i:Nat) (u8 u9 u10 u11 u12 u13 u14 u15 u16 u17 u18 u19 u20 u21 u22 u23 u24 u25 u26 u27 u28 u29 u30 u31 u32 u33 u34 u35 u36 u37 u38 u39 u40 u41 u42 u43:Value),q≤n∧CoreAt w l p q i w' ∧
  a'={ tmps:=#[.slice A n c,.int .i64 q,undef,undef,.pointer (some ⟨w.heap.size,0,none⟩),.int .i64 0,.int .i64 0,.int .i64 i,u8,u9,u10,u11,u12,u13,u14,u15,u16,u17,u18,u19,u20,u21,u22,u23,u24,u25,u26,u27,u28,u29,u30,u31,u32,u33,u34,u35,u36,u37,u38,u39,u40,u41,u42,u43],defers:=[] }
def CoreM (a':Act) (_:World):Nat:=3 - (intOf (a'.tmps.getD 7 undef)).toNat

theorem readCore_any (A:Option Addr) (n c:Nat) (l:List UInt8) (p:Nat) (w:World) (h:Row w A n l) (hc:n≤c) (hp:p≤n) :
  Calls Tryd.prog 61 #[.slice A n c,.int .i64 p] w fun e w'=>e=.returned (coreOut (core l p))∧Below w.heap.size w w':=by
 have hm:=h.2.1
 unfold maxLen at hm
 have HR:=Lib.hid h
 have HL:=Lib.hid h.1
 clear h
 go_enter Tryd.func61,Tryd.ntmps61
 go_wp2
 refine wp_scope_back 0 (CoreJ w A n c l p) CoreM rfl ?_ ?_
 ·rintro a' w1 ⟨q,i,u8,u9,u10,u11,u12,u13,u14,u15,u16,u17,u18,u19,u20,u21,u22,u23,u24,u25,u26,u27,u28,u29,u30,u31,u32,u33,u34,u35,u36,u37,u38,u39,u40,u41,u42,u43,hq,(⟨rfl,rfl,hQ⟩ | ⟨rfl,x,rfl,hQ⟩ | ⟨rfl,x,y,rfl,hQ⟩),rfl⟩
  all_goals
   have HQ:=Lib.hid hQ
   clear hQ
  ·have HB:Hid (Below w.heap.size w (w.alloc (.cells #[.int .u64 0,.int .u64 0,.int .u64 0] 129))):=((Below.refl w.heap.size w).alloc (Nat.le_refl _) _)
   have HPE:=Lib.hid (parse_end l q (by rw [HL.out]; exact hq))
   obtain ⟨⟨v,m,f⟩,hp⟩:∃ t,parse l q=t:=⟨_,rfl⟩
   have HE:Hid (core l q=if f≠0 then (f,q,0,0,0) else after1 l v (q+m)):=by unfold Hid core; rw [hp]
   have HP:Hid (parseOut l q=.tuple #[.int .u64 v,.int .i64 m,.int .i64 f]):=by unfold Hid parseOut; rw [hp]
   rw [hp] at HPE
   have hqm:q+m≤n:=by have:=HPE.out; rw [HL.out] at this; exact this
   clear hp HPE
   go_wp2_with fail
   refine (parse_any _ _ _ l q _ (HR.out.kept HB.out) hc).mono ?_
   rintro e w' ⟨rfl,rfl⟩
   rw [HP.out]
   by_cases h0:f=0
   ·subst h0
    have HE2:Hid (core l q=after1 l v (q+m)):=HE.out.trans (if_neg (by simp))
    have HB2:Hid (Below w.heap.size w (w.alloc (.cells #[.int .u64 v,.int .u64 0,.int .u64 0] 129))):=((Below.refl w.heap.size w).alloc (Nat.le_refl _) _)
    clear HE
    go_wp2_with fail
    refine (point_any _ _ _ l (q+m) _ (HR.out.kept HB2.out) hqm).mono ?_
    rintro e w' ⟨rfl,rfl⟩
    have HPL:=Lib.hid (point_lt (l:=l) (q:=q+m) (by rw [HL.out]; exact hqm))
    have HE3:Hid (core l q=if point l (q+m)≠0 then (point l (q+m),q+m,0,0,0) else core1 l v (q+m+1)):=HE2.out
    clear HE2
    generalize point l (q+m)=g at HPL HE3 ⊢
    by_cases h1:g=0
    ·subst h1
     have HE4:Hid (core l q=core1 l v (q+m+1)):=HE3.out.trans (if_neg (by simp))
     have hql:q+m+1≤n:=by have:=HPL.out rfl; rw [HL.out] at this; omega
     go_wp2
     go_step3
     rw [show ((q:Int)+(m:Int)+1)=((q+m+1:Nat):Int) from rfl]
     refine ⟨rfl,⟨q+m+1,1,_,_,_,_,_,_,_,_,_,_,_,_,_,_,_,_,_,_,_,_,_,_,_,_,_,_,_,_,_,_,_,_,_,_,_,_,hql,.inr (.inl ⟨rfl,v,rfl,HE4.out.symm.trans HQ.out⟩),rfl⟩,?_⟩
     simp [CoreM,intOf]
    ·have HE4:Hid (core l q=(g,q+m,0,0,0)):=HE3.out.trans (if_pos h1)
     have hb1:((g:Int) != 0)=true:=by simp [h1]
     have hb2:((g:Int) == 0)=false:=by simp [h1]
     clear h1 HE3
     go_wp2
     simp only [Exit.jump]
     exact bodyPost_ret (v:=coreOut (g,q+m,0,0,0)) (by simp [coreOut,results,Tryd.results61,go_sem]) rfl ⟨by rw [← HQ.out,HE4.out],((Below.refl w.heap.size w).alloc (Nat.le_refl _) _)⟩
   ·have HE2:Hid (core l q=(f,q,0,0,0)):=HE.out.trans (if_pos h0)
    have hb1:((f:Int) != 0)=true:=by simp [h0]
    have hb2:((f:Int) == 0)=false:=by simp [h0]
    clear h0 HE
    go_wp2
    simp only [Exit.jump]
    exact bodyPost_ret (v:=coreOut (f,q,0,0,0)) (by simp [coreOut,results,Tryd.results61,go_sem]) rfl ⟨by rw [← HQ.out,HE2.out],((Below.refl w.heap.size w).alloc (Nat.le_refl _) _)⟩
  ·have HB:Hid (Below w.heap.size w (w.alloc (.cells #[.int .u64 x,.int .u64 0,.int .u64 0] 129))):=((Below.refl w.heap.size w).alloc (Nat.le_refl _) _)
   have HPE:=Lib.hid (parse_end l q (by rw [HL.out]; exact hq))
   obtain ⟨⟨v,m,f⟩,hp⟩:∃ t,parse l q=t:=⟨_,rfl⟩
   have HE:Hid (core1 l x q=if f≠0 then (f,q,0,0,0) else after2 l x v (q+m)):=by unfold Hid core1; rw [hp]
   have HP:Hid (parseOut l q=.tuple #[.int .u64 v,.int .i64 m,.int .i64 f]):=by unfold Hid parseOut; rw [hp]
   rw [hp] at HPE
   have hqm:q+m≤n:=by have:=HPE.out; rw [HL.out] at this; exact this
   clear hp HPE
   go_wp2_with fail
   refine (parse_any _ _ _ l q _ (HR.out.kept HB.out) hc).mono ?_
   rintro e w' ⟨rfl,rfl⟩
   rw [HP.out]
   by_cases h0:f=0
   ·subst h0
    have HE2:Hid (core1 l x q=after2 l x v (q+m)):=HE.out.trans (if_neg (by simp))
    have HB2:Hid (Below w.heap.size w (w.alloc (.cells #[.int .u64 x,.int .u64 v,.int .u64 0] 129))):=((Below.refl w.heap.size w).alloc (Nat.le_refl _) _)
    clear HE
    go_wp2_with fail
    refine (point_any _ _ _ l (q+m) _ (HR.out.kept HB2.out) hqm).mono ?_
    rintro e w' ⟨rfl,rfl⟩
    have HPL:=Lib.hid (point_lt (l:=l) (q:=q+m) (by rw [HL.out]; exact hqm))
    have HE3:Hid (core1 l x q=if point l (q+m)≠0 then (point l (q+m),q+m,0,0,0) else core2 l x v (q+m+1)):=HE2.out
    clear HE2
    generalize point l (q+m)=g at HPL HE3 ⊢
    by_cases h1:g=0
    ·subst h1
     have HE4:Hid (core1 l x q=core2 l x v (q+m+1)):=HE3.out.trans (if_neg (by simp))
     have hql:q+m+1≤n:=by have:=HPL.out rfl; rw [HL.out] at this; omega
     go_wp2
     go_step3
     rw [show ((q:Int)+(m:Int)+1)=((q+m+1:Nat):Int) from rfl]
     refine ⟨rfl,⟨q+m+1,2,_,_,_,_,_,_,_,_,_,_,_,_,_,_,_,_,_,_,_,_,_,_,_,_,_,_,_,_,_,_,_,_,_,_,_,_,hql,.inr (.inr ⟨rfl,x,v,rfl,HE4.out.symm.trans HQ.out⟩),rfl⟩,?_⟩
     simp [CoreM,intOf]
    ·have HE4:Hid (core1 l x q=(g,q+m,0,0,0)):=HE3.out.trans (if_pos h1)
     have hb1:((g:Int) != 0)=true:=by simp [h1]
     have hb2:((g:Int) == 0)=false:=by simp [h1]
     clear h1 HE3
     go_wp2
     simp only [Exit.jump]
     exact bodyPost_ret (v:=coreOut (g,q+m,0,0,0)) (by simp [coreOut,results,Tryd.results61,go_sem]) rfl ⟨by rw [← HQ.out,HE4.out],((Below.refl w.heap.size w).alloc (Nat.le_refl _) _)⟩
   ·have HE2:Hid (core1 l x q=(f,q,0,0,0)):=HE.out.trans (if_pos h0)
    have hb1:((f:Int) != 0)=true:=by simp [h0]
    have hb2:((f:Int) == 0)=false:=by simp [h0]
    clear h0 HE
    go_wp2
    simp only [Exit.jump]
    exact bodyPost_ret (v:=coreOut (f,q,0,0,0)) (by simp [coreOut,results,Tryd.results61,go_sem]) rfl ⟨by rw [← HQ.out,HE2.out],((Below.refl w.heap.size w).alloc (Nat.le_refl _) _)⟩
  ·have HB:Hid (Below w.heap.size w (w.alloc (.cells #[.int .u64 x,.int .u64 y,.int .u64 0] 129))):=((Below.refl w.heap.size w).alloc (Nat.le_refl _) _)
   have HPE:=Lib.hid (parse_end l q (by rw [HL.out]; exact hq))
   obtain ⟨⟨v,m,f⟩,hp⟩:∃ t,parse l q=t:=⟨_,rfl⟩
   have HE:Hid (core2 l x y q=if f≠0 then (f,q,0,0,0) else (0,q+m,x,y,v)):=by unfold Hid core2; rw [hp]
   have HP:Hid (parseOut l q=.tuple #[.int .u64 v,.int .i64 m,.int .i64 f]):=by unfold Hid parseOut; rw [hp]
   rw [hp] at HPE
   have hqm:q+m≤n:=by have:=HPE.out; rw [HL.out] at this; exact this
   clear hp HPE
   go_wp2_with fail
   refine (parse_any _ _ _ l q _ (HR.out.kept HB.out) hc).mono ?_
   rintro e w' ⟨rfl,rfl⟩
   rw [HP.out]
   by_cases h0:f=0
   ·subst h0
    have HE2:Hid (core2 l x y q=(0,q+m,x,y,v)):=HE.out.trans (if_neg (by simp))
    clear HE
    go_wp2
    simp only [Exit.jump]
    exact bodyPost_ret (v:=coreOut (0,q+m,x,y,v)) (by simp [coreOut,results,Tryd.results61,go_sem]) rfl ⟨by rw [← HQ.out,HE2.out],((Below.refl w.heap.size w).alloc (Nat.le_refl _) _)⟩
   ·have HE2:Hid (core2 l x y q=(f,q,0,0,0)):=HE.out.trans (if_pos h0)
    have hb1:((f:Int) != 0)=true:=by simp [h0]
    have hb2:((f:Int) == 0)=false:=by simp [h0]
    clear h0 HE
    go_wp2
    simp only [Exit.jump]
    exact bodyPost_ret (v:=coreOut (f,q,0,0,0)) (by simp [coreOut,results,Tryd.results61,go_sem]) rfl ⟨by rw [← HQ.out,HE2.out],((Below.refl w.heap.size w).alloc (Nat.le_refl _) _)⟩
 ·intro HP
  go_wp2
  go_step3
  rename_i hK
  exact hK _ _ (HP.out _ _ ⟨p,0,_,_,_,_,_,_,_,_,_,_,_,_,_,_,_,_,_,_,_,_,_,_,_,_,_,_,_,_,_,_,_,_,_,_,_,_,hp,.inl ⟨rfl,rfl,rfl⟩,rfl⟩)
end Go.Proofs.YtgakcdcfblgagaaDoor.Semver
namespace Go.Proofs.YtgakcdcfblgagaaDoor.Semver
open Go.RowKit Num Ident

def heldB (x y z:Nat):Bool:=decide (x≤maxField∧y≤maxField∧z≤maxField)
theorem heldB_yes {x y z:Nat} (hx:x≤maxField) (hy:y≤maxField) (hz:z≤maxField):heldB x y z=true:=decide_eq_true ⟨hx,hy,hz⟩
def goodV (v:Ver):Bool:=heldB v.a v.b v.c && (goodFrom true v.pre 0 && goodFrom false v.build 0)
def sameV (u v:Ver):Bool:=decide (u.a=v.a∧u.b=v.b∧u.c=v.c) && (sameB u.pre v.pre && sameB u.build v.build)
theorem sameV_self (v:Ver):sameV v v=true:=by unfold sameV; rw [(sameB_iff _ _).2 rfl,(sameB_iff _ _).2 rfl]; simp
def rowText (m:UInt8) (xs:List (List UInt8)):List UInt8:=if xs.length=0 then [] else m :: joined xs
def vtext (v:Ver):List UInt8:=Lib.decDigits v.a ++ [46] ++ Lib.decDigits v.b ++ [46] ++ Lib.decDigits v.c ++ rowText 45 v.pre ++ rowText 43 v.build
theorem rowText_none {m:UInt8} {xs:List (List UInt8)} (h:xs.length=0):rowText m xs=[]:=by unfold rowText; rw [if_pos h]
theorem rowText_some {m:UInt8} {xs:List (List UInt8)} (h:xs.length≠0):rowText m xs=[m] ++ joined xs:=by unfold rowText; rw [if_neg h]; rfl
theorem sameV_no {u v:Ver} (h:¬ (u.a=v.a∧u.b=v.b∧u.c=v.c)):sameV u v=false:=by unfold sameV; rw [decide_eq_false h]; rfl
end Go.Proofs.YtgakcdcfblgagaaDoor.Semver
namespace Go.Proofs.YtgakcdcfblgagaaDoor.Ident
open Go.RowKit Num

theorem letter_any (x:Int) (w:World) (h0:0≤x) (h1:x≤255) :
  Calls Tryd.prog 95 #[.int .u8 x] w fun e w'=>e=.returned (.bool (letB x))∧w=w':=by
 by_cases ha:65≤x
 ·by_cases hb:x≤90
  ·have HF:=Lib.hid (letB_yes (.inl ⟨ha,hb⟩))
   go_enter Tryd.func95,Tryd.ntmps95
   go_wp2
   go_ret
   exact ⟨by rw [HF.out]; rfl,rfl⟩
  ·by_cases hc:97≤x
   ·by_cases hd:x≤122
    ·have HF:=Lib.hid (letB_yes (.inr ⟨hc,hd⟩))
     go_enter Tryd.func95,Tryd.ntmps95
     go_wp2
     go_ret
     exact ⟨by rw [HF.out]; rfl,rfl⟩
    ·have HF:=Lib.hid (letB_no (x:=x) (by omega))
     go_enter Tryd.func95,Tryd.ntmps95
     go_wp2
     go_ret
     exact ⟨by rw [HF.out]; rfl,rfl⟩
   ·have HF:=Lib.hid (letB_no (x:=x) (by omega))
    go_enter Tryd.func95,Tryd.ntmps95
    go_wp2
    go_ret
    exact ⟨by rw [HF.out]; rfl,rfl⟩
 ·have hc:¬ 97≤x:=by omega
  have HF:=Lib.hid (letB_no (x:=x) (by omega))
  go_enter Tryd.func95,Tryd.ntmps95
  go_wp2
  go_ret
  exact ⟨by rw [HF.out]; rfl,rfl⟩
def LenJ (w:World) (A:Option Addr) (n c:Nat) (l:List UInt8) (a':Act) (w':World):Prop :=
 w=w'∧∃ (k:Nat) (u4 u5 u6 u7 u8 u9 u10 u11 u12 u13 u14 u15 u16 u17 u18 u19 u20 u21 u22 u23 u24 u25 u26 u27 u28 u29 u30 u31:Value),k≤n∧(∀ j,j<k→isId (l.getD j 0)=true)∧a'={ tmps:=#[.slice A n c,undef,.int .i64 0,.int .i64 k,u4,u5,u6,u7,u8,u9,u10,u11,u12,u13,u14,u15,u16,u17,u18,u19,u20,u21,u22,u23,u24,u25,u26,u27,u28,u29,u30,u31],defers:=[] }
def LenM (n:Nat) (a':Act) (_:World):Nat:=n - (intOf (a'.tmps.getD 3 undef)).toNat
theorem length_any (A:Option Addr) (n c:Nat) (l:List UInt8) (w:World) (h:Row w A n l) :
  Calls Tryd.prog 83 #[.slice A n c] w fun e w'=>e=.returned (.int .i64 (lead l))∧w=w':=by
 obtain ⟨hl,hm,hc⟩:=h
 unfold maxLen at hm
 have HC:=Lib.hid hc; clear hc
 have HL:=Lib.hid hl; clear hl
 go_enter Tryd.func83,Tryd.ntmps83
 go_wp2
 refine wp_scope_back 0 (LenJ w A n c l) (LenM n) rfl ?_ ?_
 ·rintro a' w' ⟨rfl,k,u4,u5,u6,u7,u8,u9,u10,u11,u12,u13,u14,u15,u16,u17,u18,u19,u20,u21,u22,u23,u24,u25,u26,u27,u28,u29,u30,u31,hk,hd,rfl⟩
  have HD:=Lib.hid hd; clear hd
  by_cases hlt:k<n
  ·obtain ⟨b,o,rfl,hb,hcell⟩:=HC.out (by omega)
   have hx:=hcell k hlt
   clear hcell HC
   have hbd:=byteAt_bd l k
   have HI:Hid (isId (l.getD k 0)=idB (byteAt l k)):=(idB_at _).symm
   generalize byteAt l k=x at hx hbd HI
   obtain ⟨hx0,hx1⟩:=hbd
   have HN:Hid (idB x=true→∀ j,j<k+1→isId (l.getD j 0)=true):=fun hi j hj=>by
    rcases Nat.lt_or_ge j k with hj1 | hj1
    ·exact HD.out j hj1
    ·obtain rfl:j=k:=by omega
     rw [HI.out]; exact hi
   have HS:Hid (idB x=false→lead l=k):=fun hn=>lead_stop l k (by rw [HL.out]; omega) HD.out (.inr (by rw [HI.out]; exact hn))
   go_wp2_with fail
   refine (digit_any _ _ hx0 hx1).mono ?_
   rintro e w' ⟨rfl,rfl⟩
   cases h1:digB x
   ·have H1:=Lib.hid h1; clear h1
    go_wp2_with fail
    refine (letter_any _ _ hx0 hx1).mono ?_
    rintro e w' ⟨rfl,rfl⟩
    cases h2:letB x
    ·have H2:=Lib.hid h2; clear h2
     by_cases h3:x=45
     ·have hb3:(x == 45)=true:=by simp [h3]
      have H3:=Lib.hid hb3
      have H4:=Lib.hid h3; clear h3
      go_wp2
      go_step3
      rw [show ((k:Int)+1)=((k+1:Nat):Int) from rfl]
      refine ⟨rfl,⟨rfl,k+1,_,_,_,_,_,_,_,_,_,_,_,_,_,_,_,_,_,_,_,_,_,_,_,_,_,_,_,_,by omega,HN.out (by unfold idB; rw [H3.out]; simp),rfl⟩,?_⟩
      simp [LenM,intOf]; omega
     ·have hb3:(x == 45)=false:=by simp [h3]
      have H3:=Lib.hid hb3
      clear h3
      go_wp2
      simp only [Exit.jump]
      go_ret
      exact ⟨ret_int (by rw [HS.out (by unfold idB; rw [H1.out,H2.out,H3.out]; rfl)]),rfl⟩
    ·have H2:=Lib.hid h2; clear h2
     go_wp2
     go_step3
     rw [show ((k:Int)+1)=((k+1:Nat):Int) from rfl]
     refine ⟨rfl,⟨rfl,k+1,_,_,_,_,_,_,_,_,_,_,_,_,_,_,_,_,_,_,_,_,_,_,_,_,_,_,_,_,by omega,HN.out (by unfold idB; rw [H2.out]; simp),rfl⟩,?_⟩
     simp [LenM,intOf]; omega
   ·have H1:=Lib.hid h1; clear h1
    go_wp2
    go_step3
    rw [show ((k:Int)+1)=((k+1:Nat):Int) from rfl]
    refine ⟨rfl,⟨rfl,k+1,_,_,_,_,_,_,_,_,_,_,_,_,_,_,_,_,_,_,_,_,_,_,_,_,_,_,_,_,by omega,HN.out (by unfold idB; rw [H1.out]; rfl),rfl⟩,?_⟩
    simp [LenM,intOf]; omega
  ·have HS:Hid (lead l=k):=lead_stop l k (by rw [HL.out]; omega) HD.out (.inl (by rw [HL.out]; omega))
   go_wp2
   simp only [Exit.jump]
   go_ret
   exact ⟨ret_int (by rw [HS.out]),rfl⟩
 ·intro HP
  go_wp2
  go_step3
  rename_i hK
  exact hK _ _ (HP.out _ _ ⟨rfl,0,_,_,_,_,_,_,_,_,_,_,_,_,_,_,_,_,_,_,_,_,_,_,_,_,_,_,_,_,by omega,(fun j hj=>by omega),rfl⟩)
theorem fault_any (s:ByteArray) (i:Nat) (pre:Bool) (w:World) (hs:s.size≤maxLen) (hi:i≤maxLen) :
  Calls Tryd.prog 84 #[.string s,.int .i64 i,.bool pre] w fun e w'=>e=.returned (.int .i64 (fault s.data.toList i pre))∧Below w.heap.size w w':=by
 have HS:=Lib.hid hs
 unfold maxLen at hs hi
 have HL:=Lib.hid (Lib.size_eq s)
 by_cases h0:s.size=0
 ·have HF:=Lib.hid (fault_5 (s:=s.data.toList) i pre (by rw [← HL.out]; exact h0))
  have hem:=(empty_iff s).2 h0
  have H0:=Lib.hid h0; clear h0
  go_enter Tryd.func84,Tryd.ntmps84
  go_wp2
  go_ret
  exact ⟨by rw [HF.out]; rfl,Below.refl _ _⟩
 ·have hem:=(empty_no s).2 h0
  have H0:Hid (s.data.toList.length≠0):=by unfold Hid; rw [← HL.out]; exact h0
  clear h0
  by_cases h1:255<s.size
  ·have HF:=Lib.hid (fault_4 (s:=s.data.toList) (i:=i) pre H0.out (.inl (by rw [← HL.out]; exact h1)))
   go_enter Tryd.func84,Tryd.ntmps84
   go_wp2
   go_ret
   exact ⟨by rw [HF.out]; rfl,Below.refl _ _⟩
  ·by_cases h2:16≤i
   ·have HF:=Lib.hid (fault_4 (s:=s.data.toList) (i:=i) pre H0.out (.inr h2))
    go_enter Tryd.func84,Tryd.ntmps84
    go_wp2
    go_ret
    exact ⟨by rw [HF.out]; rfl,Below.refl _ _⟩
   ·have H12:Hid (¬ (255<s.data.toList.length∨16≤i)):=by unfold Hid; rw [← HL.out]; omega
    cases pre
    ·have HF:=Lib.hid (fault_0 (s:=s.data.toList) (i:=i) (pre:=false) H0.out H12.out (by simp))
     go_enter Tryd.func84,Tryd.ntmps84
     go_wp2
     go_ret
     exact ⟨by rw [HF.out]; rfl,Below.refl _ _⟩
    ·cases h3:numeric s.data.toList
     ·have HF:=Lib.hid (fault_0 (s:=s.data.toList) (i:=i) (pre:=true) H0.out H12.out (by simp [h3]))
      have H3:=Lib.hid h3; clear h3
      go_enter Tryd.func84,Tryd.ntmps84
      go_wp2_with fail
      refine (numeric_any s _ HS.out).mono ?_
      rintro e w' ⟨rfl,rfl⟩
      rw [H3.out]
      go_wp2
      go_ret
      exact ⟨by rw [HF.out]; rfl,Below.refl _ _⟩
     ·cases h4:isNum s.data.toList
      ·have HF:=Lib.hid (fault_3 (s:=s.data.toList) (i:=i) (pre:=true) H0.out H12.out ⟨rfl,h3,h4⟩)
       have H3:=Lib.hid h3; clear h3
       have H4:=Lib.hid h4; clear h4
       go_enter Tryd.func84,Tryd.ntmps84
       go_wp2_with fail
       refine (numeric_any s _ HS.out).mono ?_
       rintro e w' ⟨rfl,rfl⟩
       rw [H3.out]
       go_wp2_with fail
       refine (is_any s _ HS.out).mono ?_
       rintro e w1 ⟨rfl,hb1⟩
       rw [H4.out]
       go_wp2
       go_ret
       exact ⟨by rw [HF.out]; rfl,hb1⟩
      ·have HF:=Lib.hid (fault_0 (s:=s.data.toList) (i:=i) (pre:=true) H0.out H12.out (by simp [h4]))
       have H3:=Lib.hid h3; clear h3
       have H4:=Lib.hid h4; clear h4
       go_enter Tryd.func84,Tryd.ntmps84
       go_wp2_with fail
       refine (numeric_any s _ HS.out).mono ?_
       rintro e w' ⟨rfl,rfl⟩
       rw [H3.out]
       go_wp2_with fail
       refine (is_any s _ HS.out).mono ?_
       rintro e w1 ⟨rfl,hb1⟩
       rw [H4.out]
       go_wp2
       go_ret
       exact ⟨by rw [HF.out]; rfl,hb1⟩
end Go.Proofs.YtgakcdcfblgagaaDoor.Ident
namespace Go.Proofs.YtgakcdcfblgagaaDoor.Range
open Num Ident Semver

inductive Rng where
 | mk (kind:Int) (v:Ver) (l:List Rng)
def Rng.kind:Rng→Int
 | .mk k _ _=>k
def Rng.ver:Rng→Ver
 | .mk _ v _=>v
def Rng.subs:Rng→List Rng
 | .mk _ _ l=>l
def noRng:Rng:=.mk 0 noVer []

def blankB (b:UInt8):Bool:=b == 32 || b == 9
def blanks:List UInt8→List UInt8
 | []=>[]
 | b :: s=>if blankB b then blanks s else b :: s
def stands (t s:List UInt8):Bool:=t.isPrefixOf s
def oneOf (some s:List UInt8):Bool:=match s with
 | []=>false
 | b :: _=>decide (b ∈ some)
def lackN (s:List UInt8):Nat:=if s=[] then 5 else 3
def digits:List UInt8:=[48,49,50,51,52,53,54,55,56,57]
def starts:List UInt8:=[40,33,42,62,60,61,94,126,48,49,50,51,52,53,54,55,56,57]
def ops:List (List UInt8):=[[62,61],[62],[60,61],[60],[61],[33,61],[94],[126]]
def opFrom (s:List UInt8):List (List UInt8)→Int→Int × List UInt8
 | [],_=>(5,[])
 | t :: r,k=>if stands t s then (k,t) else opFrom s r (k+1)
def opOf (s:List UInt8):Int × List UInt8:=opFrom s ops 1
abbrev Out:=Nat × List UInt8 × Rng
def verAt (kind:Int) (s:List UInt8):Out :=
 if oneOf digits s=true then
  if (vparse s 0).1≠0 then ((vparse s 0).1,s.drop (vparse s 0).2.1,noRng) else (0,blanks (s.drop (vparse s 0).2.1),.mk kind (vparse s 0).2.2 [])
 else (lackN s,s,noRng)
def whole (kind:Int) (acc:List Rng) (r:Rng):Rng:=if acc=[] then r else .mk kind noVer (acc ++ [r])
def sev (pf:List UInt8→Out) (ff:List UInt8→Option (List UInt8)) (kind:Int):Nat→List Rng→List UInt8→Out
 | 0,_,s=>(99,s,noRng)
 | n+1,acc,s=>if (pf s).1≠0 then ((pf s).1,(pf s).2.1,noRng) else
  match ff (pf s).2.1 with
  | some s'=>sev pf ff kind n (acc ++ [(pf s).2.2]) s'
  | none=>(0,(pf s).2.1,whole kind acc (pf s).2.2)
def furE (s:List UInt8):Option (List UInt8):=if stands [124,124] s=true then some (blanks (s.drop 2)) else none
def furO (s:List UInt8):Option (List UInt8):=if stands [44] s=true then some (blanks (s.drop 1)) else if oneOf starts s=true then some s else none
def everyF (pf:List UInt8→Out) (s:List UInt8):Out:=sev pf furO 9 (s.length+1) [] s
def exprF (pf:List UInt8→Out) (s:List UInt8):Out:=sev (everyF pf) furE 10 (s.length+1) [] s
def shutF (t:Out):Out:=if t.1≠0 then (t.1,t.2.1,noRng) else if stands [41] t.2.1=true then (0,blanks (t.2.1.drop 1),t.2.2) else (lackN t.2.1,t.2.1,noRng)
def notF (t:Out):Out:=if t.1≠0 then (t.1,t.2.1,noRng) else (0,t.2.1,.mk 11 noVer [t.2.2])
def oneF (sub:Option (List UInt8→Out)) (s:List UInt8):Out :=
 if stands [42] s=true then (0,blanks (s.drop 1),noRng)
 else if stands [40] s=true then (match sub with
  | none=>(8,s,noRng)
  | some f=>shutF (exprF f (blanks (s.drop 1))))
 else if (opOf s).2=[]∧stands [33] s=true then (match sub with
  | none=>(8,s,noRng)
  | some f=>notF (f (blanks (s.drop 1))))
 else verAt (opOf s).1 (blanks (s.drop (opOf s).2.length))
def pone:Nat→List UInt8→Out
 | 0=>oneF none
 | k+1=>oneF (some (pone k))
abbrev POut:=Nat × Nat × Rng
def pparse (l:List UInt8) (p:Int):POut :=
 if p<0∨(l.length:Int)<p then (1,0,noRng) else
  ((exprF (pone 64) (blanks (l.drop p.toNat))).1,l.length - (exprF (pone 64) (blanks (l.drop p.toNat))).2.1.length,(exprF (pone 64) (blanks (l.drop p.toNat))).2.2)
def pread (l:List UInt8):POut :=
 if (pparse l 0).1≠0 then ((pparse l 0).1,(pparse l 0).2.1,noRng) else if (pparse l 0).2.1≠l.length then (13,(pparse l 0).2.1,noRng) else (0,0,(pparse l 0).2.2)

def bracketed (outer kind:Int):Bool:=decide (kind=10∨kind=9∧outer≠10)
def ofVersion (kind:Int):Bool:=decide (1≤kind∧kind≤8)
def opens (outer kind:Int):Nat:=(if outer=11 then 1 else 0)+(if bracketed outer kind=true then 1 else 0)
def fits (kind:Int) (v:Ver) (n:Nat):Bool :=
 if ofVersion kind=true then goodV v && decide (n=0)
 else if sameV v noVer=false then false
 else if kind=0 then decide (n=0) else if kind=9∨kind=10 then decide (2≤n) else if kind=11 then decide (n=1) else false
mutual
def goodR:Rng→Nat→Bool
 | .mk kind v l,deep=>decide (deep≤64) && fits kind v l.length && goodL kind l deep
def goodL (outer:Int):List Rng→Nat→Bool
 | [],_=>true
 | r :: rs,deep=>goodR r (deep+opens outer r.kind) && goodL outer rs deep
end
def markR (kind:Int) (v:Ver):List UInt8 :=
 if kind=0 then [42] else if kind=9∨kind=10 then [] else if kind=11 then [33] else if ofVersion kind=true then ops.getD (kind - 1).toNat [] ++ vtext v else vtext v
def aheadR (outer kind:Int) (told:Nat):List UInt8 :=
 if outer=11∧kind=5 then [32] else if told=0 then [] else if outer=10 then [32,124,124,32] else [44,32]
def openR (outer kind:Int):List UInt8:=if bracketed outer kind=true then [40] else []
def shutR (outer kind:Int):List UInt8:=if bracketed outer kind=true then [41] else []
def most (kind:Int) (n:Nat):Nat:=if kind=9∨kind=10 then n else if kind=11 then min 1 n else 0
mutual
def textR:Rng→List UInt8
 | .mk kind v l=>markR kind v ++ textL kind (most kind l.length) l 0
def textL (outer:Int) (m:Nat):List Rng→Nat→List UInt8
 | [],_=>[]
 | r :: rs,i=>if i<m then aheadR outer r.kind i ++ (openR outer r.kind ++ textR r ++ shutR outer r.kind) ++ textL outer m rs (i+1) else []
end
theorem goodR_eq (kind:Int) (v:Ver) (l:List Rng) (deep:Nat):goodR (.mk kind v l) deep=(decide (deep≤64) && fits kind v l.length && goodL kind l deep):=rfl
theorem goodL_cons (outer:Int) (r:Rng) (rs:List Rng) (deep:Nat):goodL outer (r :: rs) deep=(goodR r (deep+opens outer r.kind) && goodL outer rs deep):=rfl
theorem textR_eq (kind:Int) (v:Ver) (l:List Rng):textR (.mk kind v l)=markR kind v ++ textL kind (most kind l.length) l 0:=rfl
theorem textL_cons (outer:Int) (m:Nat) (r:Rng) (rs:List Rng) (i:Nat):textL outer m (r :: rs) i=if i<m then aheadR outer r.kind i ++ (openR outer r.kind ++ textR r ++ shutR outer r.kind) ++ textL outer m rs (i+1) else []:=rfl
theorem pone_zero (s:List UInt8):pone 0 s=oneF none s:=rfl
theorem pone_succ (k:Nat) (s:List UInt8):pone (k+1) s=oneF (some (pone k)) s:=rfl
end Go.Proofs.YtgakcdcfblgagaaDoor.Range
namespace Go.Proofs.YtgakcdcfblgagaaDoor.Semver
open Num Ident

theorem num_inj {x y:List UInt8} (hx:isNum x=true) (hy:isNum y=true) (h:val x=val y):x=y:=by
 rcases Nat.lt_trichotomy x.length y.length with hl | hl | hl
 ·have:=shorter hx hy hl; omega
 ·have h1:=(isNum_iff x).1 hx
  have h2:=(isNum_iff y).1 hy
  exact val_inj x y (all_of_run h1.2.1) (all_of_run h2.2.1) hl h
 ·have:=shorter hy hx hl; omega

/-! What is read. -/
theorem parse_read {l:List UInt8} {p v m:Nat} (hp:p≤l.length) (h:parse l p=(v,m,0)):l.drop p=Lib.decDigits v ++ l.drop (p+m)∧v≤maxField:=by
 obtain ⟨d,hd⟩:∃ d,(l.drop p).take (run (l.drop p))=d:=⟨_,rfl⟩
 have e:=parse_at l p hp d hd
 rw [h] at e
 have ha:AllDig d:=by rw [← hd]; exact allDig_take_run _
 by_cases h0:d.length=0
 ·rw [if_pos h0] at e; simp at e
 ·rw [if_neg h0] at e
  by_cases h1:pad d=true
  ·rw [if_pos h1] at e; simp at e
  ·rw [if_neg h1] at e
   by_cases h2:maxField<val d
   ·rw [if_pos h2] at e; simp at e
   ·rw [if_neg h2] at e
    injection e with e1 e2
    injection e2 with e2 _
    have hn:isNum d=true:=by
     rw [isNum_iff]
     exact ⟨by omega,run_all ha,by simpa using h1⟩
    have hdec:d=Lib.decDigits v:=num_inj hn (dec_num v) (by rw [dec_val,e1])
    have hm:m=run (l.drop p):=by
     rw [e2,← hd,List.length_take]
     have:=run_le (l.drop p); omega
    refine ⟨?_,by omega⟩
    rw [← hdec,← hd,← hm,← List.drop_drop,List.take_append_drop]
theorem point_read {l:List UInt8} {q:Nat} (hq:q≤l.length) (h:point l q=0):l.drop q=46 :: l.drop (q+1):=by
 have hlt:=point_lt hq h
 rw [drop_getD l q hlt]
 unfold point at h
 rw [if_neg (by omega)] at h
 by_cases h2:byteAt l q≠46
 ·rw [if_pos h2] at h; omega
 ·have h3:byteAt l q=46:=by simpa using h2
  have:l.getD q 0=46:=UInt8.toNat_inj.1 (show (l.getD q 0).toNat=46 by unfold byteAt at h3; omega)
  rw [this]
theorem core2_read {l:List UInt8} {p x y z q a b:Nat} (hp:p≤l.length) (h:core2 l x y p=(0,q,a,b,z)):a=x∧b=y∧l.drop p=Lib.decDigits z ++ l.drop q∧z≤maxField:=by
 unfold core2 at h
 obtain ⟨⟨v,m,f⟩,hk⟩:∃ t,parse l p=t:=⟨_,rfl⟩
 rw [hk] at h
 by_cases h0:f≠0
 ·rw [if_pos h0] at h; injection h with h; exact absurd h h0
 ·have hf:f=0:=by simpa using h0
  subst hf
  rw [if_neg (by simp)] at h
  simp only [Prod.mk.injEq,true_and] at h
  obtain ⟨rfl,rfl,rfl,rfl⟩:=h
  exact ⟨rfl,rfl,parse_read hp hk⟩
theorem core1_read {l:List UInt8} {p x y z q a:Nat} (hp:p≤l.length) (h:core1 l x p=(0,q,a,y,z)):a=x∧l.drop p=Lib.decDigits y ++ 46 :: (Lib.decDigits z ++ l.drop q)∧y≤maxField∧z≤maxField:=by
 unfold core1 at h
 obtain ⟨⟨v,m,f⟩,hk⟩:∃ t,parse l p=t:=⟨_,rfl⟩
 have hpe:=parse_end l p hp
 rw [hk] at h hpe
 by_cases h0:f≠0
 ·rw [if_pos h0] at h; injection h with h; exact absurd h h0
 ·have hf:f=0:=by simpa using h0
  subst hf
  rw [if_neg (by simp)] at h
  simp only at h hpe
  unfold after2 at h
  by_cases h1:point l (p+m)≠0
  ·rw [if_pos h1] at h; injection h with h; exact absurd h h1
  ·rw [if_neg h1] at h
   have h1':point l (p+m)=0:=by simpa using h1
   obtain ⟨rfl,rfl,e1,e2⟩:=core2_read (point_lt hpe h1') h
   obtain ⟨e3,e4⟩:=parse_read hp hk
   exact ⟨rfl,by rw [e3,point_read hpe h1',e1],e4,e2⟩
theorem core_read {l:List UInt8} {p x y z q:Nat} (hp:p≤l.length) (h:core l p=(0,q,x,y,z)) :
  l.drop p=Lib.decDigits x ++ 46 :: (Lib.decDigits y ++ 46 :: (Lib.decDigits z ++ l.drop q))∧x≤maxField∧y≤maxField∧z≤maxField:=by
 unfold core at h
 obtain ⟨⟨v,m,f⟩,hk⟩:∃ t,parse l p=t:=⟨_,rfl⟩
 have hpe:=parse_end l p hp
 rw [hk] at h hpe
 by_cases h0:f≠0
 ·rw [if_pos h0] at h; injection h with h; exact absurd h h0
 ·have hf:f=0:=by simpa using h0
  subst hf
  rw [if_neg (by simp)] at h
  simp only at h hpe
  unfold after1 at h
  by_cases h1:point l (p+m)≠0
  ·rw [if_pos h1] at h; injection h with h; exact absurd h h1
  ·rw [if_neg h1] at h
   have h1':point l (p+m)=0:=by simpa using h1
   obtain ⟨rfl,e1,e2,e5⟩:=core1_read (point_lt hpe h1') h
   obtain ⟨e3,e4⟩:=parse_read hp hk
   exact ⟨by rw [e3,point_read hpe h1',e1],e4,e2,e5⟩

theorem joined_byte (acc:List (List UInt8)) (w:List UInt8) (b:UInt8):joined (acc ++ [w ++ [b]])=joined (acc ++ [w]) ++ [b]:=by
 cases acc with
 | nil=>rw [List.nil_append,List.nil_append,joined_one,joined_one]
 | cons x r=>rw [joined_snoc _ _ (by simp),joined_snoc _ _ (by simp),List.append_assoc,List.append_assoc,List.append_assoc]
theorem joined_point (acc:List (List UInt8)) (w:List UInt8):joined (acc ++ [w] ++ [[]])=joined (acc ++ [w]) ++ [46]:=by
 rw [joined_snoc _ _ (by simp),List.append_nil]
theorem goodFrom_snoc (pre:Bool) (acc:List (List UInt8)) (w:List UInt8) (i:Nat):goodFrom pre (acc ++ [w]) i=(goodFrom pre acc i && (fault w (i+acc.length) pre == 0 && lead w == w.length)):=by
 induction acc generalizing i with
 | nil=>simp [goodFrom]
 | cons x r ih =>
  rw [List.cons_append,goodFrom,goodFrom,ih,List.length_cons,show i+1+r.length=i+(r.length+1) by omega]
  simp only [Bool.and_assoc]
theorem go_read {pre:Bool}:∀ (r w:List UInt8) (acc:List (List UInt8)) (n N:Nat) (xs:List (List UInt8)),(∀ b ∈ w,isId b=true)→goodFrom pre acc 0=true→go pre r w acc n=(0,N,xs) →
  ∃ k,N=n+k∧k≤r.length∧joined (acc ++ [w]) ++ r.take k=joined xs∧xs≠[]∧goodFrom pre xs 0=true:=by
 have hshut:∀ (r w:List UInt8) (acc:List (List UInt8)) (n N:Nat) (xs:List (List UInt8)),(∀ b ∈ w,isId b=true)→goodFrom pre acc 0=true→shut pre w acc n=(0,N,xs) →
   ∃ k,N=n+k∧k≤r.length∧joined (acc ++ [w]) ++ r.take k=joined xs∧xs≠[]∧goodFrom pre xs 0=true:=by
  intro r w acc n N xs hw hg h
  unfold shut at h
  split at h
  ·rename_i hf
   simp only [Prod.mk.injEq,true_and] at h
   obtain ⟨rfl,rfl⟩:=h
   refine ⟨0,by omega,Nat.zero_le _,by simp,by simp,?_⟩
   rw [goodFrom_snoc,hg,Nat.zero_add,hf,lead_full.2 hw]; simp
  ·rename_i hf
   injection h with h
   exact absurd h hf
 intro r
 induction r with
 | nil=>intro w acc n N xs hw hg h; rw [go] at h; exact hshut [] w acc n N xs hw hg h
 | cons b r ih =>
  intro w acc n N xs hw hg h
  by_cases hb:isId b=true
  ·rw [go_id hb] at h
   obtain ⟨k,e1,e2,e3,e4⟩:=ih (w ++ [b]) acc (n+1) N xs (fun c hc=>by rcases List.mem_append.1 hc with hc | hc; (· exact hw c hc); (· simp at hc; rw [hc]; exact hb)) hg h
   refine ⟨k+1,by omega,by simp; exact e2,?_,e4⟩
   rw [joined_byte,List.append_assoc] at e3
   rw [List.take_succ_cons]; exact e3
  ·have hb':isId b=false:=by simpa using hb
   by_cases h46:b.toNat=46
   ·by_cases hf:fault w acc.length pre=0
    ·rw [go_point h46 hf] at h
     obtain ⟨k,e1,e2,e3,e4⟩:=ih [] (acc ++ [w]) (n+1) N xs (by simp) (by rw [goodFrom_snoc,hg,Nat.zero_add,hf,lead_full.2 hw]; simp) h
     refine ⟨k+1,by omega,by simp; exact e2,?_,e4⟩
     have eb:b=46:=UInt8.toNat_inj.1 h46
     rw [joined_point,List.append_assoc] at e3
     rw [List.take_succ_cons,eb]; exact e3
    ·rw [go_bad hb' hf] at h
     injection h with h
     exact absurd h hf
   ·rw [go_else hb' h46] at h
    exact hshut (b :: r) w acc n N xs hw hg h
theorem row_read {l:List UInt8} {p N:Nat} {pre:Bool} {xs:List (List UInt8)} (hp:p≤l.length) (h:row l p pre=(0,N,xs)):l.drop p=joined xs ++ l.drop (p+N)∧xs≠[]∧goodFrom pre xs 0=true:=by
 unfold row at h
 rw [if_neg (by omega),Int.toNat_natCast] at h
 obtain ⟨k,e1,e2,e3,e4,e5⟩:=go_read (l.drop p) [] [] 0 N xs (by simp) rfl h
 rw [List.nil_append,joined_one,List.nil_append] at e3
 refine ⟨?_,e4,e5⟩
 rw [← e3,show N=k by omega,← List.drop_drop,List.take_append_drop]
theorem rowAt_read {l:List UInt8} {p m q:Nat} {mb:UInt8} {xs:List (List UInt8)} (hm:m=mb.toNat) (hp:p≤l.length) (h:rowAt l p m=(0,q,xs)):l.drop p=rowText mb xs ++ l.drop q∧goodFrom (m == 45) xs 0=true:=by
 by_cases h0:p=l.length∨byteAt l p≠(m:Int)
 ·rw [rowAt_none h0] at h
  simp only [Prod.mk.injEq,true_and] at h
  obtain ⟨rfl,rfl⟩:=h
  exact ⟨by rw [rowText_none rfl]; rfl,rfl⟩
 ·have h1:p≠l.length:=fun e=>h0 (.inl e)
  have h2:byteAt l p=(m:Int):=by
   by_cases e:byteAt l p=(m:Int)
   ·exact e
   ·exact absurd (.inr e) h0
  rw [rowAt_some h1 h2] at h
  have hlt:p<l.length:=by omega
  obtain ⟨⟨f,N,ys⟩,hr⟩:∃ t,row l ((p+1:Nat):Int) (m == 45)=t:=⟨_,rfl⟩
  rw [hr] at h
  simp only [Prod.mk.injEq] at h
  obtain ⟨rfl,rfl,rfl⟩:=h
  obtain ⟨e1,e2,e3⟩:=row_read hlt hr
  refine ⟨?_,e3⟩
  have hb:l.getD p 0=mb:=UInt8.toNat_inj.1 (by unfold byteAt at h2; omega)
  rw [drop_getD l p hlt,hb,e1,rowText_some (fun e=>e2 (List.eq_nil_of_length_eq_zero e))]; rfl
theorem goodFrom_bound {pre:Bool}:∀ (xs:List (List UInt8)) (i:Nat),goodFrom pre xs i=true→(xs≠[]→xs.length+i≤16)∧∀ x ∈ xs,x.length≤255
 | [],_,_=>⟨fun h=>absurd rfl h,by simp⟩
 | x :: r,i,h=>by
  rw [goodFrom,Bool.and_eq_true,Bool.and_eq_true,beq_iff_eq,beq_iff_eq] at h
  have hf:=fault_pos h.1.1
  have ih:=goodFrom_bound r (i+1) h.2
  refine ⟨fun _=>?_,fun y hy=>?_⟩
  ·by_cases hr:r=[]
   ·subst hr; simp; omega
   ·have:=ih.1 hr
    rw [List.length_cons]; omega
  ·rcases List.mem_cons.1 hy with rfl | hy
   ·exact hf.2.1
   ·exact ih.2 y hy

theorem read_back {l:List UInt8} {q:Nat} {v:Ver} (h:vread l=(0,q,v)):goodV v=true∧vtext v=l:=by
 unfold vread at h
 by_cases h0:(vparse l 0).1≠0
 ·rw [if_pos h0] at h; injection h with h; exact absurd h h0
 ·rw [if_neg h0] at h
  by_cases h1:(vparse l 0).2.1≠l.length
  ·rw [if_pos h1] at h; injection h with h; exact absurd h (by decide)
  ·rw [if_neg h1] at h
   have hq:(vparse l 0).2.1=l.length:=by simpa using h1
   have hf:(vparse l 0).1=0:=by simpa using h0
   injection h with _ h
   injection h with _ hv
   clear h0 h1
   unfold vparse at hq hf hv
   rw [if_neg (by omega),Int.toNat_zero] at hq hf hv
   unfold inside at hq hf hv
   by_cases h2:(core l 0).1≠0
   ·rw [if_pos h2] at hf; exact absurd hf h2
   ·rw [if_neg h2] at hq hf hv
    have hce:=core_end l 0 (Nat.zero_le _)
    obtain ⟨⟨f,q1,x,y,z⟩,hk⟩:∃ t,core l 0=t:=⟨_,rfl⟩
    rw [hk] at h2 hq hf hv hce
    simp only at h2 hq hf hv hce
    have h2':f=0:=by simpa using h2
    subst h2'
    obtain ⟨c1,c2,c3,c4⟩:=core_read (Nat.zero_le _) hk
    unfold tail1 at hq hf hv
    by_cases h3:(rowAt l q1 45).1≠0
    ·rw [if_pos h3] at hf; exact absurd hf h3
    ·rw [if_neg h3] at hq hf hv
     have hre:=rowAt_end l q1 45 hce
     obtain ⟨⟨f,q2,xs⟩,hr⟩:∃ t,rowAt l q1 45=t:=⟨_,rfl⟩
     rw [hr] at h3 hq hf hv hre
     simp only at h3 hq hf hv hre
     have h3':f=0:=by simpa using h3
     subst h3'
     obtain ⟨r1,r2⟩:=rowAt_read (mb:=45) rfl hce hr
     unfold tail2 at hq hf hv
     by_cases h4:(rowAt l q2 43).1≠0
     ·rw [if_pos h4] at hf; exact absurd hf h4
     ·rw [if_neg h4] at hq hf hv
      obtain ⟨⟨f,q3,ys⟩,hr3⟩:∃ t,rowAt l q2 43=t:=⟨_,rfl⟩
      rw [hr3] at h4 hq hf hv
      simp only at h4 hq hf hv
      have h4':f=0:=by simpa using h4
      subst h4'
      obtain ⟨s1,s2⟩:=rowAt_read (mb:=43) rfl hre hr3
      subst hv
      refine ⟨?_,?_⟩
      ·unfold goodV
       rw [heldB_yes c2 c3 c4]
       have r2':goodFrom true xs 0=true:=r2
       have s2':goodFrom false ys 0=true:=s2
       simp [r2',s2']
      ·have e:l=Lib.decDigits x ++ 46 :: (Lib.decDigits y ++ 46 :: (Lib.decDigits z ++ (rowText 45 xs ++ (rowText 43 ys ++ l.drop q3)))):=by
        rw [← s1,← r1,← c1]; rfl
       rw [hq,List.drop_length,List.append_nil] at e
       unfold vtext
       rw [e]; simp
end Go.Proofs.YtgakcdcfblgagaaDoor.Semver
namespace Go.Proofs.YtgakcdcfblgagaaDoor.Prec
open Go.RowKit Num Ident Semver

structure Ordr {T:Type} (f:T→T→Int):Prop where
 flip:∀ x y,f y x=0 - f x y
 trans:∀ x y z,f x y≤0→f y z≤0→f x z≤0
def lex {T:Type} (f g:T→T→Int) (x y:T):Int:=if f x y=0 then g x y else f x y



def noneN (x:List (List UInt8)):Nat:=if x.length=0 then 1 else 0
def cmpPre:List (List UInt8)→List (List UInt8)→Int:=lex (fun x y=>ordN (noneN x) (noneN y)) cmpRows
def cmpCore:Ver→Ver→Int:=lex (fun u v=>ordN u.a v.a) (lex (fun u v=>ordN u.b v.b) fun u v=>ordN u.c v.c)
def cmpV:Ver→Ver→Int:=lex cmpCore fun u v=>cmpPre u.pre v.pre


end Go.Proofs.YtgakcdcfblgagaaDoor.Prec
