/-
  What the theorem of the last text needs of these: SvCore, IdRef, SvCame, SvPlain, IdWalks, IdCmp. Conditions: as each theorem states.
-/
import Derived.Test.YtgfbflnhjpbceaaGreatDoorSetB1
import Derived.Test.YtgfbflnhjpbceaaGreatDoorSetB2
import Derived.Test.YtgfbflnhjpbceaaGreatDoorSetB3
import Derived.Deep.Fields
import Derived.Lib.ItoaLen
import Derived.Test.YtgfbflnhjpbceaaGreatDoorShelfTrim
set_option maxRecDepth 100000
set_option maxHeartbeats 25600000
namespace Go.Proofs.YtgfbflnhjpbceaaGreatDoor.Semver
open Go.RowKit Num Ident

theorem point_any (A:Option Addr) (n c:Nat) (l:List UInt8) (q:Nat) (w:World) (h:Row w A n l) (hq:q≤n) :
  Calls Tryz.prog 193 #[.slice A n c,.int .i64 q] w fun e w'=>e=.returned (.int .i64 (point l q))∧w=w':=by
 obtain ⟨hl,hm,hc⟩:=h
 unfold maxLen at hm
 have HC:=Lib.hid hc; clear hc
 have HL:=Lib.hid hl; clear hl
 by_cases h0:q=n
 ·have HF:=Lib.hid (point_end (l:=l) (q:=q) (by rw [HL.out]; exact h0))
  subst h0
  have hb:((q:Int) == (q:Int))=true:=by simp
  go_enter Tryz.func193,Tryz.ntmps193
  go_wp2
  go_ret
  exact ⟨by rw [HF.out]; rfl,rfl⟩
 ·have hlt:q<n:=by omega
  have hb:((q:Int) == (n:Int))=false:=by simp; omega
  obtain ⟨b,o,rfl,hbl,hcell⟩:=HC.out (by omega)
  have hx:=hcell q hlt
  clear hcell HC
  have HN:=Lib.hid (point_no (l:=l) (q:=q) (by rw [HL.out]; exact h0))
  have HY:=Lib.hid (point_yes (l:=l) (q:=q) (by rw [HL.out]; exact h0))
  have hbd:=byteAt_bd l q
  generalize byteAt l q=x at hx hbd HN HY
  clear h0
  by_cases h46:x=46
  ·have HF:=Lib.hid (HY.out h46)
   have h1:(x != 46)=false:=by simp [h46]
   clear h46 HN HY
   go_enter Tryz.func193,Tryz.ntmps193
   go_wp2
   go_ret
   exact ⟨by rw [HF.out]; rfl,rfl⟩
  ·have HF:=Lib.hid (HN.out h46)
   have h1:(x != 46)=true:=by simp [h46]
   clear h46 HN HY
   go_enter Tryz.func193,Tryz.ntmps193
   go_wp2
   go_ret
   exact ⟨by rw [HF.out]; rfl,rfl⟩

def coreOut (k:Core):Value:=.tuple #[.agg #[.int .u64 k.2.2.1,.int .u64 k.2.2.2.1,.int .u64 k.2.2.2.2],.int .i64 k.2.1,.int .i64 k.1]

def CoreAt (w:World) (l:List UInt8) (p q i:Nat) (w':World):Prop :=
 (i=0∧w'=(w.alloc (.cells #[.int .u64 0,.int .u64 0,.int .u64 0] 99))∧core l q=core l p) ∨
 (i=1∧∃ x:Nat,w'=(w.alloc (.cells #[.int .u64 x,.int .u64 0,.int .u64 0] 99))∧core1 l x q=core l p) ∨
 (i=2∧∃ x y:Nat,w'=(w.alloc (.cells #[.int .u64 x,.int .u64 y,.int .u64 0] 99))∧core2 l x y q=core l p)
def CoreJ (w:World) (A:Option Addr) (n c:Nat) (l:List UInt8) (p:Nat) (a':Act) (w':World):Prop :=
 ∃ (q i:Nat) (u8 u9 u10 u11 u12 u13 u14 u15 u16 u17 u18 u19 u20 u21 u22 u23 u24 u25 u26 u27 u28 u29 u30 u31 u32 u33 u34 u35 u36 u37 u38 u39 u40 u41 u42 u43:Value),q≤n∧CoreAt w l p q i w' ∧
  a'={ tmps:=#[.slice A n c,.int .i64 q,undef,undef,.pointer (some ⟨w.heap.size,0,none⟩),.int .i64 0,.int .i64 0,.int .i64 i,u8,u9,u10,u11,u12,u13,u14,u15,u16,u17,u18,u19,u20,u21,u22,u23,u24,u25,u26,u27,u28,u29,u30,u31,u32,u33,u34,u35,u36,u37,u38,u39,u40,u41,u42,u43],defers:=[] }
def CoreM (a':Act) (_:World):Nat:=3 - (intOf (a'.tmps.getD 7 undef)).toNat

theorem readCore_any (A:Option Addr) (n c:Nat) (l:List UInt8) (p:Nat) (w:World) (h:Row w A n l) (hc:n≤c) (hp:p≤n) :
  Calls Tryz.prog 181 #[.slice A n c,.int .i64 p] w fun e w'=>e=.returned (coreOut (core l p))∧Below w.heap.size w w':=by
 have hm:=h.2.1
 unfold maxLen at hm
 have HR:=Lib.hid h
 have HL:=Lib.hid h.1
 clear h
 go_enter Tryz.func181,Tryz.ntmps181
 go_wp2
 refine wp_scope_back 0 (CoreJ w A n c l p) CoreM rfl ?_ ?_
 ·rintro a' w1 ⟨q,i,u8,u9,u10,u11,u12,u13,u14,u15,u16,u17,u18,u19,u20,u21,u22,u23,u24,u25,u26,u27,u28,u29,u30,u31,u32,u33,u34,u35,u36,u37,u38,u39,u40,u41,u42,u43,hq,(⟨rfl,rfl,hQ⟩ | ⟨rfl,x,rfl,hQ⟩ | ⟨rfl,x,y,rfl,hQ⟩),rfl⟩
  all_goals
   have HQ:=Lib.hid hQ
   clear hQ
  ·have HB:Hid (Below w.heap.size w (w.alloc (.cells #[.int .u64 0,.int .u64 0,.int .u64 0] 99))):=((Below.refl w.heap.size w).alloc (Nat.le_refl _) _)
   have HPE:=Lib.hid (parse_end l q (by rw [HL.out]; exact hq))
   obtain ⟨⟨v,m,f⟩,hp⟩:∃ t,parse l q=t:=⟨_,rfl⟩
   have HE:Hid (core l q=if f≠0 then (f,q,0,0,0) else after1 l v (q+m)):=by unfold Hid core; rw [hp]
   have HP:Hid (parseOut l q=.tuple #[.int .u64 v,.int .i64 m,.int .i64 f]):=by unfold Hid parseOut; rw [hp]
   rw [hp] at HPE
   have hqm:q+m≤n:=by have:=HPE.out; rw [HL.out] at this; exact this
   clear hp HPE
   go_wp2_with fail
   refine (parse_any _ _ _ l q _ (HR.out.kept HB.out) hc).mono ?_
   rintro e w' ⟨rfl,rfl⟩
   rw [HP.out]
   by_cases h0:f=0
   ·subst h0
    have HE2:Hid (core l q=after1 l v (q+m)):=HE.out.trans (if_neg (by simp))
    have HB2:Hid (Below w.heap.size w (w.alloc (.cells #[.int .u64 v,.int .u64 0,.int .u64 0] 99))):=((Below.refl w.heap.size w).alloc (Nat.le_refl _) _)
    clear HE
    go_wp2_with fail
    refine (point_any _ _ _ l (q+m) _ (HR.out.kept HB2.out) hqm).mono ?_
    rintro e w' ⟨rfl,rfl⟩
    have HPL:=Lib.hid (point_lt (l:=l) (q:=q+m) (by rw [HL.out]; exact hqm))
    have HE3:Hid (core l q=if point l (q+m)≠0 then (point l (q+m),q+m,0,0,0) else core1 l v (q+m+1)):=HE2.out
    clear HE2
    generalize point l (q+m)=g at HPL HE3 ⊢
    by_cases h1:g=0
    ·subst h1
     have HE4:Hid (core l q=core1 l v (q+m+1)):=HE3.out.trans (if_neg (by simp))
     have hql:q+m+1≤n:=by have:=HPL.out rfl; rw [HL.out] at this; omega
     go_wp2
     go_step3
     rw [show ((q:Int)+(m:Int)+1)=((q+m+1:Nat):Int) from rfl]
     refine ⟨rfl,⟨q+m+1,1,_,_,_,_,_,_,_,_,_,_,_,_,_,_,_,_,_,_,_,_,_,_,_,_,_,_,_,_,_,_,_,_,_,_,_,_,hql,.inr (.inl ⟨rfl,v,rfl,HE4.out.symm.trans HQ.out⟩),rfl⟩,?_⟩
     simp [CoreM,intOf]
    ·have HE4:Hid (core l q=(g,q+m,0,0,0)):=HE3.out.trans (if_pos h1)
     have hb1:((g:Int) != 0)=true:=by simp [h1]
     have hb2:((g:Int) == 0)=false:=by simp [h1]
     clear h1 HE3
     go_wp2
     simp only [Exit.jump]
     exact bodyPost_ret (v:=coreOut (g,q+m,0,0,0)) (by simp [coreOut,results,Tryz.results181,go_sem]) rfl ⟨by rw [← HQ.out,HE4.out],((Below.refl w.heap.size w).alloc (Nat.le_refl _) _)⟩
   ·have HE2:Hid (core l q=(f,q,0,0,0)):=HE.out.trans (if_pos h0)
    have hb1:((f:Int) != 0)=true:=by simp [h0]
    have hb2:((f:Int) == 0)=false:=by simp [h0]
    clear h0 HE
    go_wp2
    simp only [Exit.jump]
    exact bodyPost_ret (v:=coreOut (f,q,0,0,0)) (by simp [coreOut,results,Tryz.results181,go_sem]) rfl ⟨by rw [← HQ.out,HE2.out],((Below.refl w.heap.size w).alloc (Nat.le_refl _) _)⟩
  ·have HB:Hid (Below w.heap.size w (w.alloc (.cells #[.int .u64 x,.int .u64 0,.int .u64 0] 99))):=((Below.refl w.heap.size w).alloc (Nat.le_refl _) _)
   have HPE:=Lib.hid (parse_end l q (by rw [HL.out]; exact hq))
   obtain ⟨⟨v,m,f⟩,hp⟩:∃ t,parse l q=t:=⟨_,rfl⟩
   have HE:Hid (core1 l x q=if f≠0 then (f,q,0,0,0) else after2 l x v (q+m)):=by unfold Hid core1; rw [hp]
   have HP:Hid (parseOut l q=.tuple #[.int .u64 v,.int .i64 m,.int .i64 f]):=by unfold Hid parseOut; rw [hp]
   rw [hp] at HPE
   have hqm:q+m≤n:=by have:=HPE.out; rw [HL.out] at this; exact this
   clear hp HPE
   go_wp2_with fail
   refine (parse_any _ _ _ l q _ (HR.out.kept HB.out) hc).mono ?_
   rintro e w' ⟨rfl,rfl⟩
   rw [HP.out]
   by_cases h0:f=0
   ·subst h0
    have HE2:Hid (core1 l x q=after2 l x v (q+m)):=HE.out.trans (if_neg (by simp))
    have HB2:Hid (Below w.heap.size w (w.alloc (.cells #[.int .u64 x,.int .u64 v,.int .u64 0] 99))):=((Below.refl w.heap.size w).alloc (Nat.le_refl _) _)
    clear HE
    go_wp2_with fail
    refine (point_any _ _ _ l (q+m) _ (HR.out.kept HB2.out) hqm).mono ?_
    rintro e w' ⟨rfl,rfl⟩
    have HPL:=Lib.hid (point_lt (l:=l) (q:=q+m) (by rw [HL.out]; exact hqm))
    have HE3:Hid (core1 l x q=if point l (q+m)≠0 then (point l (q+m),q+m,0,0,0) else core2 l x v (q+m+1)):=HE2.out
    clear HE2
    generalize point l (q+m)=g at HPL HE3 ⊢
    by_cases h1:g=0
    ·subst h1
     have HE4:Hid (core1 l x q=core2 l x v (q+m+1)):=HE3.out.trans (if_neg (by simp))
     have hql:q+m+1≤n:=by have:=HPL.out rfl; rw [HL.out] at this; omega
     go_wp2
     go_step3
     rw [show ((q:Int)+(m:Int)+1)=((q+m+1:Nat):Int) from rfl]
     refine ⟨rfl,⟨q+m+1,2,_,_,_,_,_,_,_,_,_,_,_,_,_,_,_,_,_,_,_,_,_,_,_,_,_,_,_,_,_,_,_,_,_,_,_,_,hql,.inr (.inr ⟨rfl,x,v,rfl,HE4.out.symm.trans HQ.out⟩),rfl⟩,?_⟩
     simp [CoreM,intOf]
    ·have HE4:Hid (core1 l x q=(g,q+m,0,0,0)):=HE3.out.trans (if_pos h1)
     have hb1:((g:Int) != 0)=true:=by simp [h1]
     have hb2:((g:Int) == 0)=false:=by simp [h1]
     clear h1 HE3
     go_wp2
     simp only [Exit.jump]
     exact bodyPost_ret (v:=coreOut (g,q+m,0,0,0)) (by simp [coreOut,results,Tryz.results181,go_sem]) rfl ⟨by rw [← HQ.out,HE4.out],((Below.refl w.heap.size w).alloc (Nat.le_refl _) _)⟩
   ·have HE2:Hid (core1 l x q=(f,q,0,0,0)):=HE.out.trans (if_pos h0)
    have hb1:((f:Int) != 0)=true:=by simp [h0]
    have hb2:((f:Int) == 0)=false:=by simp [h0]
    clear h0 HE
    go_wp2
    simp only [Exit.jump]
    exact bodyPost_ret (v:=coreOut (f,q,0,0,0)) (by simp [coreOut,results,Tryz.results181,go_sem]) rfl ⟨by rw [← HQ.out,HE2.out],((Below.refl w.heap.size w).alloc (Nat.le_refl _) _)⟩
  ·have HB:Hid (Below w.heap.size w (w.alloc (.cells #[.int .u64 x,.int .u64 y,.int .u64 0] 99))):=((Below.refl w.heap.size w).alloc (Nat.le_refl _) _)
   have HPE:=Lib.hid (parse_end l q (by rw [HL.out]; exact hq))
   obtain ⟨⟨v,m,f⟩,hp⟩:∃ t,parse l q=t:=⟨_,rfl⟩
   have HE:Hid (core2 l x y q=if f≠0 then (f,q,0,0,0) else (0,q+m,x,y,v)):=by unfold Hid core2; rw [hp]
   have HP:Hid (parseOut l q=.tuple #[.int .u64 v,.int .i64 m,.int .i64 f]):=by unfold Hid parseOut; rw [hp]
   rw [hp] at HPE
   have hqm:q+m≤n:=by have:=HPE.out; rw [HL.out] at this; exact this
   clear hp HPE
   go_wp2_with fail
   refine (parse_any _ _ _ l q _ (HR.out.kept HB.out) hc).mono ?_
   rintro e w' ⟨rfl,rfl⟩
   rw [HP.out]
   by_cases h0:f=0
   ·subst h0
    have HE2:Hid (core2 l x y q=(0,q+m,x,y,v)):=HE.out.trans (if_neg (by simp))
    clear HE
    go_wp2
    simp only [Exit.jump]
    exact bodyPost_ret (v:=coreOut (0,q+m,x,y,v)) (by simp [coreOut,results,Tryz.results181,go_sem]) rfl ⟨by rw [← HQ.out,HE2.out],((Below.refl w.heap.size w).alloc (Nat.le_refl _) _)⟩
   ·have HE2:Hid (core2 l x y q=(f,q,0,0,0)):=HE.out.trans (if_pos h0)
    have hb1:((f:Int) != 0)=true:=by simp [h0]
    have hb2:((f:Int) == 0)=false:=by simp [h0]
    clear h0 HE
    go_wp2
    simp only [Exit.jump]
    exact bodyPost_ret (v:=coreOut (f,q,0,0,0)) (by simp [coreOut,results,Tryz.results181,go_sem]) rfl ⟨by rw [← HQ.out,HE2.out],((Below.refl w.heap.size w).alloc (Nat.le_refl _) _)⟩
 ·intro HP
  go_wp2
  go_step3
  rename_i hK
  exact hK _ _ (HP.out _ _ ⟨p,0,_,_,_,_,_,_,_,_,_,_,_,_,_,_,_,_,_,_,_,_,_,_,_,_,_,_,_,_,_,_,_,_,_,_,_,_,hp,.inl ⟨rfl,rfl,rfl⟩,rfl⟩)
end Go.Proofs.YtgfbflnhjpbceaaGreatDoor.Semver
namespace Go.Proofs.YtgfbflnhjpbceaaGreatDoor.Ident
open Go.RowKit Num

theorem idB_yes1 {x:Int} (h:48≤x∧x≤57):idB x=true:=by unfold idB; rw [digB_yes h]; rfl
theorem idB_yes2 {x:Int} (h:(65≤x∧x≤90)∨(97≤x∧x≤122)):idB x=true:=by unfold idB; rw [letB_yes h]; simp
theorem idB_yes3:idB 45=true:=by decide
theorem idB_no {x:Int} (h1:¬ (48≤x∧x≤57)) (h2:¬ ((65≤x∧x≤90)∨(97≤x∧x≤122))) (h3:x≠45):idB x=false:=by
 unfold idB; rw [digB_no h1,letB_no h2]; simp [h3]

theorem ref_byte_any (x:Int) (w:World) (h0:0≤x) (h1:x≤255) :
  Calls Tryz.prog 94 #[.int .u8 x] w fun e w'=>e=.returned (.bool (idB x))∧w=w':=by
 by_cases ha:48≤x
 ·by_cases hb:x≤57
  ·have HF:=Lib.hid (idB_yes1 ⟨ha,hb⟩)
   go_enter Tryz.func94,Tryz.ntmps94
   go_wp2
   go_ret
   exact ⟨by rw [HF.out]; rfl,rfl⟩
  ·have h45:(x == 45)=false:=by simp; omega
   by_cases hc:65≤x
   ·by_cases hd:x≤90
    ·have HF:=Lib.hid (idB_yes2 (.inl ⟨hc,hd⟩))
     go_enter Tryz.func94,Tryz.ntmps94
     go_wp2
     go_ret
     exact ⟨by rw [HF.out]; rfl,rfl⟩
    ·by_cases he:97≤x
     ·by_cases hf:x≤122
      ·have HF:=Lib.hid (idB_yes2 (.inr ⟨he,hf⟩))
       go_enter Tryz.func94,Tryz.ntmps94
       go_wp2
       go_ret
       exact ⟨by rw [HF.out]; rfl,rfl⟩
      ·have HF:=Lib.hid (idB_no (x:=x) (by omega) (by omega) (by omega))
       go_enter Tryz.func94,Tryz.ntmps94
       go_wp2
       go_ret
       exact ⟨by rw [HF.out]; rfl,rfl⟩
     ·have HF:=Lib.hid (idB_no (x:=x) (by omega) (by omega) (by omega))
      go_enter Tryz.func94,Tryz.ntmps94
      go_wp2
      go_ret
      exact ⟨by rw [HF.out]; rfl,rfl⟩
   ·have he:¬ 97≤x:=by omega
    have HF:=Lib.hid (idB_no (x:=x) (by omega) (by omega) (by omega))
    go_enter Tryz.func94,Tryz.ntmps94
    go_wp2
    go_ret
    exact ⟨by rw [HF.out]; rfl,rfl⟩
 ·have hc:¬ 65≤x:=by omega
  have he:¬ 97≤x:=by omega
  by_cases h45:x=45
  ·subst h45
   have HF:=Lib.hid idB_yes3
   clear ha hc he h0 h1
   go_enter Tryz.func94,Tryz.ntmps94
   go_wp2
   go_ret
   exact ⟨by rw [HF.out]; rfl,rfl⟩
  ·have HF:=Lib.hid (idB_no (x:=x) (by omega) (by omega) h45)
   have hb45:(x == 45)=false:=by simp [h45]
   clear h45
   go_enter Tryz.func94,Tryz.ntmps94
   go_wp2
   go_ret
   exact ⟨by rw [HF.out]; rfl,rfl⟩

theorem ref_numeric_any (s:ByteArray) (w:World) (hs:s.size≤1000000) :
  Calls Tryz.prog 120 #[.string s] w fun e w'=>e=.returned (.bool (numeric s.data.toList))∧w=w':=by
 have LS:=Lib.hid (Lib.size_eq s)
 go_enter Tryz.func120,Tryz.ntmps120
 go_wp2
 go_loop [3] (fun t=>∃ k:Nat,k≤s.size∧t=.int .i64 k∧Hid (∀ j,j<k→isDig (s.data.toList.getD j 0)=true)) (fun t=>s.size - (intOf t).toNat)
 case atStart=>exact ⟨0,by omega,rfl,fun j h=>by omega⟩
 case round =>
  obtain ⟨k,hk,rfl,HD⟩:=hrel
  by_cases hlt:k<s.size
  ·have HX:=Lib.hid (at_text s k hlt)
   have HI:=Lib.hid (isDig_at s.data.toList k)
   have HN:Hid (¬ (48≤(s[k].toNat:Int)∧(s[k].toNat:Int)≤57)→numeric s.data.toList=false):=fun hn=>(numeric_no _).2 fun hh=>hn (by
    have:=run_dig s.data.toList k (by rw [hh.2,← LS.out]; exact hlt)
    rw [HI.out,← HX.out] at this; exact this)
   by_cases h1:48≤(s[k].toNat:Int)
   ·by_cases h2:(s[k].toNat:Int)≤57
    ·go_wp2
     go_round
     case rel =>
      refine ⟨k+1,by omega,by go_num,fun j hj=>?_⟩
      rcases Nat.lt_or_ge j k with hj1 | hj1
      ·exact HD.out j hj1
      ·obtain rfl:j=k:=by omega
       exact HI.out.2 (by rw [← HX.out]; exact ⟨h1,h2⟩)
     case measure=>simp [intOf]; omega
    ·go_wp2
     go_ret
     exact ⟨by rw [HN.out (by omega)]; rfl,rfl⟩
   ·go_wp2
    go_ret
    exact ⟨by rw [HN.out (by omega)]; rfl,rfl⟩
  ·obtain rfl:k=s.size:=by omega
   have HR:Hid (run s.data.toList=s.data.toList.length):=run_stop _ _ (Nat.le_refl _) (by rw [← LS.out]; exact HD.out) (.inl rfl)
   by_cases h0:s.size=0
   ·have hem:=(empty_iff s).2 h0
    have hem2:(!s.toList.isEmpty)=false:=by rw [hem]; rfl
    have HF:Hid (numeric s.data.toList=false):=(numeric_no _).2 fun hh=>by have:=hh.1; rw [← LS.out] at this; omega
    have H0:=Lib.hid h0; clear h0
    go_wp2
    go_ret
    exact ⟨by rw [HF.out]; rfl,rfl⟩
   ·have hem:=(empty_no s).2 h0
    have hem2:(!s.toList.isEmpty)=true:=by rw [hem]; rfl
    have HF:Hid (numeric s.data.toList=true):=(numeric_iff _).2 ⟨by rw [← LS.out]; omega,HR.out⟩
    go_wp2
    go_ret
    exact ⟨by rw [HF.out]; rfl,rfl⟩

theorem wrong_all (s:ByteArray) (i:Nat) (pre:Bool) (w:World) (hs:s.size≤maxLen) (hi:i≤maxLen) :
  Calls Tryz.prog 93 #[.string s,.int .i64 i,.bool pre] w fun e w'=>e=.returned (.int .i64 (fault s.data.toList i pre))∧w=w':=by
 unfold maxLen at hs hi
 have HL:=Lib.hid (Lib.size_eq s)
 by_cases h0:s.size=0
 ·have HF:=Lib.hid (fault_5 (s:=s.data.toList) i pre (by rw [← HL.out]; exact h0))
  have hem:=(empty_iff s).2 h0
  have H0:=Lib.hid h0; clear h0
  go_enter Tryz.func93,Tryz.ntmps93
  go_wp2
  go_ret
  exact ⟨by rw [HF.out]; rfl,rfl⟩
 ·have hem:=(empty_no s).2 h0
  have H0:Hid (s.data.toList.length≠0):=by unfold Hid; rw [← HL.out]; exact h0
  clear h0
  by_cases h1:255<s.size
  ·have HF:=Lib.hid (fault_4 (s:=s.data.toList) (i:=i) pre H0.out (.inl (by rw [← HL.out]; exact h1)))
   go_enter Tryz.func93,Tryz.ntmps93
   go_wp2
   go_ret
   exact ⟨by rw [HF.out]; rfl,rfl⟩
  ·have HS:Hid (s.size≤1000000):=by unfold Hid; omega
   by_cases h2:15<i
   ·have HF:=Lib.hid (fault_4 (s:=s.data.toList) (i:=i) pre H0.out (.inr h2))
    go_enter Tryz.func93,Tryz.ntmps93
    go_wp2
    go_ret
    exact ⟨by rw [HF.out]; rfl,rfl⟩
   ·have H12:Hid (¬ (255<s.data.toList.length∨16≤i)):=by unfold Hid; rw [← HL.out]; omega
    cases pre
    ·have HF:=Lib.hid (fault_0 (s:=s.data.toList) (i:=i) (pre:=false) H0.out H12.out (by simp))
     go_enter Tryz.func93,Tryz.ntmps93
     go_wp2
     go_ret
     exact ⟨by rw [HF.out]; rfl,rfl⟩
    ·cases h3:numeric s.data.toList
     ·have HF:=Lib.hid (fault_0 (s:=s.data.toList) (i:=i) (pre:=true) H0.out H12.out (by simp [h3]))
      have H3:=Lib.hid h3; clear h3
      go_enter Tryz.func93,Tryz.ntmps93
      go_wp2_with fail
      refine (ref_numeric_any s _ HS.out).mono ?_
      rintro e w' ⟨rfl,rfl⟩
      rw [H3.out]
      go_wp2
      go_ret
      exact ⟨by rw [HF.out]; rfl,rfl⟩
     ·have HF:Hid (fault s.data.toList i true=if isNum s.data.toList=true then 0 else 3):=by
       unfold Hid
       cases h4:isNum s.data.toList
       ·exact fault_3 H0.out H12.out ⟨rfl,h3,h4⟩
       ·exact fault_0 H0.out H12.out (by simp [h4])
      have H3:=Lib.hid h3; clear h3
      cases h4:isNum s.data.toList
      ·have H4:=Lib.hid h4; clear h4
       go_enter Tryz.func93,Tryz.ntmps93
       go_wp2_with fail
       refine (ref_numeric_any s _ HS.out).mono ?_
       rintro e w' ⟨rfl,rfl⟩
       rw [H3.out]
       go_wp2_with fail
       refine (ref_is_any s _ HS.out).mono ?_
       rintro e w1 ⟨rfl,rfl⟩
       rw [H4.out]
       go_wp2
       go_ret
       exact ⟨by rw [HF.out,H4.out]; rfl,rfl⟩
      ·have H4:=Lib.hid h4; clear h4
       go_enter Tryz.func93,Tryz.ntmps93
       go_wp2_with fail
       refine (ref_numeric_any s _ HS.out).mono ?_
       rintro e w' ⟨rfl,rfl⟩
       rw [H3.out]
       go_wp2_with fail
       refine (ref_is_any s _ HS.out).mono ?_
       rintro e w1 ⟨rfl,rfl⟩
       rw [H4.out]
       go_wp2
       go_ret
       exact ⟨by rw [HF.out,H4.out]; rfl,rfl⟩

end Go.Proofs.YtgfbflnhjpbceaaGreatDoor.Ident
namespace Go.Proofs.YtgfbflnhjpbceaaGreatDoor.Came
open Go.ChangeShapes Go.WideShapes Go.RowKit Go.Deep


theorem field_read {H:Type} {enc:TypeId × Value→H} {W:World} {n:Nat} {z:Value} {y:DataW H × List MemPlace} (h:DataW.trod enc Tryz.prog W 0 (fun _=>true) true n 22 [z]=some y):∃ a:Nat,z=.int .u64 a∧a<18446744073709551616:=by
 obtain ⟨m,hm,_,hw⟩:=DataW.trod_int Tryz.underlying22 h
 have hb:0≤m∧m≤18446744073709551615:=by simpa [Lit.wf,IntKind.min,IntKind.max,IntKind.signed,IntKind.bits] using hw
 obtain ⟨a,rfl⟩:=Int.eq_ofNat_of_zero_le hb.1
 simp at hm
 exact ⟨a,hm,by omega⟩

end Go.Proofs.YtgfbflnhjpbceaaGreatDoor.Came
namespace Go.Proofs.YtgfbflnhjpbceaaGreatDoor.Semver
open Go.RowKit Num Ident

def heldB (x y z:Nat):Bool:=decide (x≤maxField∧y≤maxField∧z≤maxField)
theorem heldB_yes {x y z:Nat} (hx:x≤maxField) (hy:y≤maxField) (hz:z≤maxField):heldB x y z=true:=decide_eq_true ⟨hx,hy,hz⟩
theorem heldB_no {x y z:Nat} (h:¬ (x≤maxField∧y≤maxField∧z≤maxField)):heldB x y z=false:=decide_eq_false h
def goodV (v:Ver):Bool:=heldB v.a v.b v.c && (goodFrom true v.pre 0 && goodFrom false v.build 0)
theorem field_le {x:Nat} (h:(x:Int)≤9223372036854775807):x≤maxField:=by unfold maxField; omega
theorem field_no {x:Nat} (h:¬ (x:Int)≤9223372036854775807):¬ x≤maxField:=by unfold maxField; omega
def sameV (u v:Ver):Bool:=decide (u.a=v.a∧u.b=v.b∧u.c=v.c) && (sameB u.pre v.pre && sameB u.build v.build)
theorem sameV_self (v:Ver):sameV v v=true:=by unfold sameV; rw [(sameB_iff _ _).2 rfl,(sameB_iff _ _).2 rfl]; simp
def rowText (m:UInt8) (xs:List (List UInt8)):List UInt8:=if xs.length=0 then [] else m :: joined xs
def vtext (v:Ver):List UInt8:=Lib.decDigits v.a ++ [46] ++ Lib.decDigits v.b ++ [46] ++ Lib.decDigits v.c ++ rowText 45 v.pre ++ rowText 43 v.build
theorem rowText_none {m:UInt8} {xs:List (List UInt8)} (h:xs.length=0):rowText m xs=[]:=by unfold rowText; rw [if_pos h]
theorem rowText_some {m:UInt8} {xs:List (List UInt8)} (h:xs.length≠0):rowText m xs=[m] ++ joined xs:=by unfold rowText; rw [if_neg h]; rfl
theorem short_joined {xs:List (List UInt8)} (h:shortB xs=true):(joined xs).length≤12040:=by
 rw [shortB_iff] at h
 have:=joined_le xs h.2
 omega
theorem rowText_le {m:UInt8} {xs:List (List UInt8)} (h:shortB xs=true):(rowText m xs).length≤12041:=by
 unfold rowText
 split
 ·simp
 ·have:=short_joined h
  simp; exact this
theorem dec_le (u:Nat) (h:u<18446744073709551616):(Lib.decDigits u).length≤20:=by rw [Lib.decDigits_length]; exact Lib.nDigits_le20 u h
theorem held_not1 {x y z:Nat} (h:¬ (x:Int)<9223372036854775808):heldB x y z=false:=heldB_no fun hh=>h (by have:=hh.1; unfold maxField at this; omega)
theorem held_not2 {x y z:Nat} (h:¬ (y:Int)<9223372036854775808):heldB x y z=false:=heldB_no fun hh=>h (by have:=hh.2.1; unfold maxField at this; omega)
theorem held_not3 {x y z:Nat} (h:¬ (z:Int)<9223372036854775808):heldB x y z=false:=heldB_no fun hh=>h (by have:=hh.2.2; unfold maxField at this; omega)
theorem held_all {x y z:Nat} (h1:(x:Int)<9223372036854775808) (h2:(y:Int)<9223372036854775808) (h3:(z:Int)<9223372036854775808):heldB x y z=true :=
 heldB_yes (by unfold maxField; omega) (by unfold maxField; omega) (by unfold maxField; omega)
theorem sameV_no {u v:Ver} (h:¬ (u.a=v.a∧u.b=v.b∧u.c=v.c)):sameV u v=false:=by unfold sameV; rw [decide_eq_false h]; rfl
end Go.Proofs.YtgfbflnhjpbceaaGreatDoor.Semver
namespace Go.Proofs.YtgfbflnhjpbceaaGreatDoor.Ident
open Go.RowKit Num

theorem letter_any (x:Int) (w:World) (h0:0≤x) (h1:x≤255) :
  Calls Tryz.prog 129 #[.int .u8 x] w fun e w'=>e=.returned (.bool (letB x))∧w=w':=by
 by_cases ha:65≤x
 ·by_cases hb:x≤90
  ·have HF:=Lib.hid (letB_yes (.inl ⟨ha,hb⟩))
   go_enter Tryz.func129,Tryz.ntmps129
   go_wp2
   go_ret
   exact ⟨by rw [HF.out]; rfl,rfl⟩
  ·by_cases hc:97≤x
   ·by_cases hd:x≤122
    ·have HF:=Lib.hid (letB_yes (.inr ⟨hc,hd⟩))
     go_enter Tryz.func129,Tryz.ntmps129
     go_wp2
     go_ret
     exact ⟨by rw [HF.out]; rfl,rfl⟩
    ·have HF:=Lib.hid (letB_no (x:=x) (by omega))
     go_enter Tryz.func129,Tryz.ntmps129
     go_wp2
     go_ret
     exact ⟨by rw [HF.out]; rfl,rfl⟩
   ·have HF:=Lib.hid (letB_no (x:=x) (by omega))
    go_enter Tryz.func129,Tryz.ntmps129
    go_wp2
    go_ret
    exact ⟨by rw [HF.out]; rfl,rfl⟩
 ·have hc:¬ 97≤x:=by omega
  have HF:=Lib.hid (letB_no (x:=x) (by omega))
  go_enter Tryz.func129,Tryz.ntmps129
  go_wp2
  go_ret
  exact ⟨by rw [HF.out]; rfl,rfl⟩
def LenJ (w:World) (A:Option Addr) (n c:Nat) (l:List UInt8) (a':Act) (w':World):Prop :=
 w=w'∧∃ (k:Nat) (u4 u5 u6 u7 u8 u9 u10 u11 u12 u13 u14 u15 u16 u17 u18 u19 u20 u21 u22 u23 u24 u25 u26 u27 u28 u29 u30 u31:Value),k≤n∧(∀ j,j<k→isId (l.getD j 0)=true)∧a'={ tmps:=#[.slice A n c,undef,.int .i64 0,.int .i64 k,u4,u5,u6,u7,u8,u9,u10,u11,u12,u13,u14,u15,u16,u17,u18,u19,u20,u21,u22,u23,u24,u25,u26,u27,u28,u29,u30,u31],defers:=[] }
def LenM (n:Nat) (a':Act) (_:World):Nat:=n - (intOf (a'.tmps.getD 3 undef)).toNat
theorem length_any (A:Option Addr) (n c:Nat) (l:List UInt8) (w:World) (h:Row w A n l) :
  Calls Tryz.prog 105 #[.slice A n c] w fun e w'=>e=.returned (.int .i64 (lead l))∧w=w':=by
 obtain ⟨hl,hm,hc⟩:=h
 unfold maxLen at hm
 have HC:=Lib.hid hc; clear hc
 have HL:=Lib.hid hl; clear hl
 go_enter Tryz.func105,Tryz.ntmps105
 go_wp2
 refine wp_scope_back 0 (LenJ w A n c l) (LenM n) rfl ?_ ?_
 ·rintro a' w' ⟨rfl,k,u4,u5,u6,u7,u8,u9,u10,u11,u12,u13,u14,u15,u16,u17,u18,u19,u20,u21,u22,u23,u24,u25,u26,u27,u28,u29,u30,u31,hk,hd,rfl⟩
  have HD:=Lib.hid hd; clear hd
  by_cases hlt:k<n
  ·obtain ⟨b,o,rfl,hb,hcell⟩:=HC.out (by omega)
   have hx:=hcell k hlt
   clear hcell HC
   have hbd:=byteAt_bd l k
   have HI:Hid (isId (l.getD k 0)=idB (byteAt l k)):=(idB_at _).symm
   generalize byteAt l k=x at hx hbd HI
   obtain ⟨hx0,hx1⟩:=hbd
   have HN:Hid (idB x=true→∀ j,j<k+1→isId (l.getD j 0)=true):=fun hi j hj=>by
    rcases Nat.lt_or_ge j k with hj1 | hj1
    ·exact HD.out j hj1
    ·obtain rfl:j=k:=by omega
     rw [HI.out]; exact hi
   have HS:Hid (idB x=false→lead l=k):=fun hn=>lead_stop l k (by rw [HL.out]; omega) HD.out (.inr (by rw [HI.out]; exact hn))
   go_wp2_with fail
   refine (digit_any _ _ hx0 hx1).mono ?_
   rintro e w' ⟨rfl,rfl⟩
   cases h1:digB x
   ·have H1:=Lib.hid h1; clear h1
    go_wp2_with fail
    refine (letter_any _ _ hx0 hx1).mono ?_
    rintro e w' ⟨rfl,rfl⟩
    cases h2:letB x
    ·have H2:=Lib.hid h2; clear h2
     by_cases h3:x=45
     ·have hb3:(x == 45)=true:=by simp [h3]
      have H3:=Lib.hid hb3
      have H4:=Lib.hid h3; clear h3
      go_wp2
      go_step3
      rw [show ((k:Int)+1)=((k+1:Nat):Int) from rfl]
      refine ⟨rfl,⟨rfl,k+1,_,_,_,_,_,_,_,_,_,_,_,_,_,_,_,_,_,_,_,_,_,_,_,_,_,_,_,_,by omega,HN.out (by unfold idB; rw [H3.out]; simp),rfl⟩,?_⟩
      simp [LenM,intOf]; omega
     ·have hb3:(x == 45)=false:=by simp [h3]
      have H3:=Lib.hid hb3
      clear h3
      go_wp2
      simp only [Exit.jump]
      go_ret
      exact ⟨ret_int (by rw [HS.out (by unfold idB; rw [H1.out,H2.out,H3.out]; rfl)]),rfl⟩
    ·have H2:=Lib.hid h2; clear h2
     go_wp2
     go_step3
     rw [show ((k:Int)+1)=((k+1:Nat):Int) from rfl]
     refine ⟨rfl,⟨rfl,k+1,_,_,_,_,_,_,_,_,_,_,_,_,_,_,_,_,_,_,_,_,_,_,_,_,_,_,_,_,by omega,HN.out (by unfold idB; rw [H2.out]; simp),rfl⟩,?_⟩
     simp [LenM,intOf]; omega
   ·have H1:=Lib.hid h1; clear h1
    go_wp2
    go_step3
    rw [show ((k:Int)+1)=((k+1:Nat):Int) from rfl]
    refine ⟨rfl,⟨rfl,k+1,_,_,_,_,_,_,_,_,_,_,_,_,_,_,_,_,_,_,_,_,_,_,_,_,_,_,_,_,by omega,HN.out (by unfold idB; rw [H1.out]; rfl),rfl⟩,?_⟩
    simp [LenM,intOf]; omega
  ·have HS:Hid (lead l=k):=lead_stop l k (by rw [HL.out]; omega) HD.out (.inl (by rw [HL.out]; omega))
   go_wp2
   simp only [Exit.jump]
   go_ret
   exact ⟨ret_int (by rw [HS.out]),rfl⟩
 ·intro HP
  go_wp2
  go_step3
  rename_i hK
  exact hK _ _ (HP.out _ _ ⟨rfl,0,_,_,_,_,_,_,_,_,_,_,_,_,_,_,_,_,_,_,_,_,_,_,_,_,_,_,_,_,by omega,(fun j hj=>by omega),rfl⟩)
theorem fault_any (s:ByteArray) (i:Nat) (pre:Bool) (w:World) (hs:s.size≤maxLen) (hi:i≤maxLen) :
  Calls Tryz.prog 104 #[.string s,.int .i64 i,.bool pre] w fun e w'=>e=.returned (.int .i64 (fault s.data.toList i pre))∧Below w.heap.size w w':=by
 have HS:=Lib.hid hs
 unfold maxLen at hs hi
 have HL:=Lib.hid (Lib.size_eq s)
 by_cases h0:s.size=0
 ·have HF:=Lib.hid (fault_5 (s:=s.data.toList) i pre (by rw [← HL.out]; exact h0))
  have hem:=(empty_iff s).2 h0
  have H0:=Lib.hid h0; clear h0
  go_enter Tryz.func104,Tryz.ntmps104
  go_wp2
  go_ret
  exact ⟨by rw [HF.out]; rfl,Below.refl _ _⟩
 ·have hem:=(empty_no s).2 h0
  have H0:Hid (s.data.toList.length≠0):=by unfold Hid; rw [← HL.out]; exact h0
  clear h0
  by_cases h1:255<s.size
  ·have HF:=Lib.hid (fault_4 (s:=s.data.toList) (i:=i) pre H0.out (.inl (by rw [← HL.out]; exact h1)))
   go_enter Tryz.func104,Tryz.ntmps104
   go_wp2
   go_ret
   exact ⟨by rw [HF.out]; rfl,Below.refl _ _⟩
  ·by_cases h2:16≤i
   ·have HF:=Lib.hid (fault_4 (s:=s.data.toList) (i:=i) pre H0.out (.inr h2))
    go_enter Tryz.func104,Tryz.ntmps104
    go_wp2
    go_ret
    exact ⟨by rw [HF.out]; rfl,Below.refl _ _⟩
   ·have H12:Hid (¬ (255<s.data.toList.length∨16≤i)):=by unfold Hid; rw [← HL.out]; omega
    cases pre
    ·have HF:=Lib.hid (fault_0 (s:=s.data.toList) (i:=i) (pre:=false) H0.out H12.out (by simp))
     go_enter Tryz.func104,Tryz.ntmps104
     go_wp2
     go_ret
     exact ⟨by rw [HF.out]; rfl,Below.refl _ _⟩
    ·cases h3:numeric s.data.toList
     ·have HF:=Lib.hid (fault_0 (s:=s.data.toList) (i:=i) (pre:=true) H0.out H12.out (by simp [h3]))
      have H3:=Lib.hid h3; clear h3
      go_enter Tryz.func104,Tryz.ntmps104
      go_wp2_with fail
      refine (numeric_any s _ HS.out).mono ?_
      rintro e w' ⟨rfl,rfl⟩
      rw [H3.out]
      go_wp2
      go_ret
      exact ⟨by rw [HF.out]; rfl,Below.refl _ _⟩
     ·cases h4:isNum s.data.toList
      ·have HF:=Lib.hid (fault_3 (s:=s.data.toList) (i:=i) (pre:=true) H0.out H12.out ⟨rfl,h3,h4⟩)
       have H3:=Lib.hid h3; clear h3
       have H4:=Lib.hid h4; clear h4
       go_enter Tryz.func104,Tryz.ntmps104
       go_wp2_with fail
       refine (numeric_any s _ HS.out).mono ?_
       rintro e w' ⟨rfl,rfl⟩
       rw [H3.out]
       go_wp2_with fail
       refine (is_any s _ HS.out).mono ?_
       rintro e w1 ⟨rfl,hb1⟩
       rw [H4.out]
       go_wp2
       go_ret
       exact ⟨by rw [HF.out]; rfl,hb1⟩
      ·have HF:=Lib.hid (fault_0 (s:=s.data.toList) (i:=i) (pre:=true) H0.out H12.out (by simp [h4]))
       have H3:=Lib.hid h3; clear h3
       have H4:=Lib.hid h4; clear h4
       go_enter Tryz.func104,Tryz.ntmps104
       go_wp2_with fail
       refine (numeric_any s _ HS.out).mono ?_
       rintro e w' ⟨rfl,rfl⟩
       rw [H3.out]
       go_wp2_with fail
       refine (is_any s _ HS.out).mono ?_
       rintro e w1 ⟨rfl,hb1⟩
       rw [H4.out]
       go_wp2
       go_ret
       exact ⟨by rw [HF.out]; rfl,hb1⟩
end Go.Proofs.YtgfbflnhjpbceaaGreatDoor.Ident
namespace Go.Proofs.YtgfbflnhjpbceaaGreatDoor.Ident
open Go.RowKit Num

theorem trim_le (l:List UInt8):(Lib.trimLeftB l 48).length≤l.length:=(List.dropWhile_sublist _).length_le

theorem numeral_any (s:ByteArray) (w:World) :
  Calls Tryz.prog 190 #[.string s] w fun e w'=>e=.returned (.string (mk (numeral s.data.toList)))∧w=w':=by
 obtain ⟨t,ht⟩:∃ t:ByteArray,(⟨(Lib.trimLeftB s.data.toList 48).toArray⟩:ByteArray)=t:=⟨_,rfl⟩
 have HT:=Lib.hid ht
 have hz:t.size=(Lib.trimLeftB s.data.toList 48).length:=by rw [← ht]; rfl
 have HK:Hid (∀ W,Calls Tryz.prog 199 #[.string s,.string ⟨#[48]⟩] W fun e w'=>e=.returned (.string t)∧w'=W):=fun W=>by
  have:=Tryz.strings_TrimLeft_one s 48 (by decide) W
  rw [ht] at this
  exact this
 clear ht
 by_cases h0:t.size=0
 ·have HF:Hid (numeral s.data.toList=[48]):=by unfold Hid numeral; rw [if_pos (by rw [← hz]; exact h0)]
  have hem:=(empty_iff t).2 h0
  clear h0 hz
  go_enter Tryz.func190,Tryz.ntmps190
  go_wp2_with fail
  refine (HK.out _).mono ?_
  rintro e w' ⟨rfl,rfl⟩
  go_wp2
  go_ret
  exact ⟨by rw [HF.out]; rfl,rfl⟩
 ·have HF:Hid (numeral s.data.toList=Lib.trimLeftB s.data.toList 48):=by unfold Hid numeral; rw [if_neg (by rw [← hz]; exact h0)]
  have hem:=(empty_no t).2 h0
  clear h0 hz
  go_enter Tryz.func190,Tryz.ntmps190
  go_wp2_with fail
  refine (HK.out _).mono ?_
  rintro e w' ⟨rfl,rfl⟩
  go_wp2
  go_ret
  exact ⟨by rw [HF.out,← HT.out]; rfl,rfl⟩

theorem numeral_le (l:List UInt8) (h:0<l.length):(numeral l).length≤l.length:=by
 unfold numeral
 split
 ·simp; omega
 ·exact trim_le l

theorem numbers_anyD (s t:ByteArray) (w:World) (hs:s.size≤maxLen) (ht:t.size≤maxLen) (ha:numeric s.data.toList=true) (hb:numeric t.data.toList=true) :
  Calls Tryz.prog 179 #[.string s,.string t] w fun e w'=>e=.returned (.int .i64 (cmpId s.data.toList t.data.toList))∧BelowD w.heap.size w w':=by
 have HF:Hid (cmpId s.data.toList t.data.toList=if ordN (val s.data.toList) (val t.data.toList)=0 then ordN s.data.toList.length t.data.toList.length else ordN (val s.data.toList) (val t.data.toList)):=by
  unfold Hid cmpId; rw [if_pos ha,if_pos hb]
 have HL:=Lib.hid (Lib.size_eq s)
 have HM:=Lib.hid (Lib.size_eq t)
 rw [numeric_iff] at ha hb
 have z1:(mk (numeral s.data.toList)).size≤maxLen:=by have:=numeral_le _ ha.1; rw [mk_size]; rw [HL.out] at hs; omega
 have z2:(mk (numeral t.data.toList)).size≤maxLen:=by have:=numeral_le _ hb.1; rw [mk_size]; rw [HM.out] at ht; omega
 have HC:Hid (∀ W,Calls Tryz.prog 189 #[.string (mk (numeral s.data.toList)),.string (mk (numeral t.data.toList))] W fun e w'=>e=.returned (.int .i64 (ordN (val s.data.toList) (val t.data.toList)))∧BelowD W.heap.size W w'):=fun W=>by
  have:=Num.compare_anyD (mk (numeral s.data.toList)) (mk (numeral t.data.toList)) W z1 z2
  rw [mk_list,mk_list,cmpNum_yes (numeral_num (all_of_run ha.2)) (numeral_num (all_of_run hb.2)),numeral_val,numeral_val] at this
  exact this
 clear z1 z2 ha hb
 unfold maxLen at hs ht
 generalize val s.data.toList=x at HC HF
 generalize val t.data.toList=y at HC HF
 rw [← HL.out,← HM.out] at HF
 rcases ordN_cases x y with ⟨_,e⟩ | ⟨_,e⟩ | ⟨_,e⟩
 ·rw [e] at HC HF
  have HF2:Hid (cmpId s.data.toList t.data.toList=-1):=by have:=HF.out; rwa [if_neg (by omega)] at this
  clear e HF
  go_enter Tryz.func179,Tryz.ntmps179
  go_wp2_with fail
  refine (numeral_any s _).mono ?_
  rintro e w' ⟨rfl,rfl⟩
  go_wp2_with fail
  refine (numeral_any t _).mono ?_
  rintro e w' ⟨rfl,rfl⟩
  go_wp2_with fail
  refine (HC.out _).mono ?_
  rintro e w1 ⟨rfl,hb1⟩
  go_wp2
  go_ret
  exact ⟨by rw [HF2.out]; rfl,hb1⟩
 ·rw [e] at HC HF
  have HF2:Hid (cmpId s.data.toList t.data.toList=ordN s.size t.size):=by have:=HF.out; rwa [if_pos rfl] at this
  clear e HF
  go_enter Tryz.func179,Tryz.ntmps179
  go_wp2_with fail
  refine (numeral_any s _).mono ?_
  rintro e w' ⟨rfl,rfl⟩
  go_wp2_with fail
  refine (numeral_any t _).mono ?_
  rintro e w' ⟨rfl,rfl⟩
  go_wp2_with fail
  refine (HC.out _).mono ?_
  rintro e w1 ⟨rfl,hb1⟩
  go_wp2_with fail
  refine (cmp_any _ _ _).mono ?_
  rintro e w' ⟨rfl,rfl⟩
  go_wp2
  go_ret
  exact ⟨by rw [HF2.out]; rfl,hb1⟩
 ·rw [e] at HC HF
  have HF2:Hid (cmpId s.data.toList t.data.toList=1):=by have:=HF.out; rwa [if_neg (by omega)] at this
  clear e HF
  go_enter Tryz.func179,Tryz.ntmps179
  go_wp2_with fail
  refine (numeral_any s _).mono ?_
  rintro e w' ⟨rfl,rfl⟩
  go_wp2_with fail
  refine (numeral_any t _).mono ?_
  rintro e w' ⟨rfl,rfl⟩
  go_wp2_with fail
  refine (HC.out _).mono ?_
  rintro e w1 ⟨rfl,hb1⟩
  go_wp2
  go_ret
  exact ⟨by rw [HF2.out]; rfl,hb1⟩

theorem cmpId_left {a b:List UInt8} (ha:numeric a=true) (hb:numeric b=false):cmpId a b=-1:=by
 unfold cmpId; rw [if_pos ha,if_neg (by simp [hb])]
theorem cmpId_right {a b:List UInt8} (ha:numeric a=false) (hb:numeric b=true):cmpId a b=1:=by
 unfold cmpId; rw [if_neg (by simp [ha]),if_pos hb]
theorem cmpId_none {a b:List UInt8} (ha:numeric a=false) (hb:numeric b=false):cmpId a b=Lib.compareBytes a b:=by
 unfold cmpId; rw [if_neg (by simp [ha]),if_neg (by simp [hb])]

theorem idcmp_anyD (s t:ByteArray) (w:World) (hs:s.size≤maxLen) (ht:t.size≤maxLen) :
  Calls Tryz.prog 167 #[.string s,.string t] w fun e w'=>e=.returned (.int .i64 (cmpId s.data.toList t.data.toList))∧BelowD w.heap.size w w':=by
 have HS:=Lib.hid hs; clear hs
 have HT:=Lib.hid ht; clear ht
 cases ha:numeric s.data.toList
 ·cases hb:numeric t.data.toList
  ·have HF:=Lib.hid (cmpId_none ha hb)
   have HA:=Lib.hid ha; clear ha
   have HB:=Lib.hid hb; clear hb
   go_enter Tryz.func167,Tryz.ntmps167
   go_wp2_with fail
   refine (numeric_any s _ HS.out).mono ?_
   rintro e w' ⟨rfl,rfl⟩
   rw [HA.out]
   go_wp2_with fail
   refine (numeric_any t _ HT.out).mono ?_
   rintro e w' ⟨rfl,rfl⟩
   rw [HB.out]
   go_wp2_with fail
   refine (strcmp_any _ _ _).mono ?_
   rintro e w' ⟨rfl,rfl⟩
   go_wp2
   go_ret
   exact ⟨by rw [HF.out]; rfl,BelowD.refl _ _⟩
  ·have HF:=Lib.hid (cmpId_right ha hb)
   have HA:=Lib.hid ha; clear ha
   have HB:=Lib.hid hb; clear hb
   go_enter Tryz.func167,Tryz.ntmps167
   go_wp2_with fail
   refine (numeric_any s _ HS.out).mono ?_
   rintro e w' ⟨rfl,rfl⟩
   rw [HA.out]
   go_wp2_with fail
   refine (numeric_any t _ HT.out).mono ?_
   rintro e w' ⟨rfl,rfl⟩
   rw [HB.out]
   go_wp2
   go_ret
   exact ⟨by rw [HF.out]; rfl,BelowD.refl _ _⟩
 ·cases hb:numeric t.data.toList
  ·have HF:=Lib.hid (cmpId_left ha hb)
   have HA:=Lib.hid ha; clear ha
   have HB:=Lib.hid hb; clear hb
   go_enter Tryz.func167,Tryz.ntmps167
   go_wp2_with fail
   refine (numeric_any s _ HS.out).mono ?_
   rintro e w' ⟨rfl,rfl⟩
   rw [HA.out]
   go_wp2_with fail
   refine (numeric_any t _ HT.out).mono ?_
   rintro e w' ⟨rfl,rfl⟩
   rw [HB.out]
   go_wp2
   go_ret
   exact ⟨by rw [HF.out]; rfl,BelowD.refl _ _⟩
  ·have HC:=Lib.hid (fun W=>numbers_anyD s t W HS.out HT.out ha hb)
   have HA:=Lib.hid ha; clear ha
   have HB:=Lib.hid hb; clear hb
   go_enter Tryz.func167,Tryz.ntmps167
   go_wp2_with fail
   refine (numeric_any s _ HS.out).mono ?_
   rintro e w' ⟨rfl,rfl⟩
   rw [HA.out]
   go_wp2_with fail
   refine (numeric_any t _ HT.out).mono ?_
   rintro e w' ⟨rfl,rfl⟩
   rw [HB.out]
   go_wp2_with fail
   refine (HC.out _).mono ?_
   rintro e w1 ⟨rfl,hb1⟩
   go_wp2
   go_ret
   exact ⟨rfl,hb1⟩
end Go.Proofs.YtgfbflnhjpbceaaGreatDoor.Ident
