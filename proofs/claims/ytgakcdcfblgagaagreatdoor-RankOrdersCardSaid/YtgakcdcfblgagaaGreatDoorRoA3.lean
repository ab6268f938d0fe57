/-
  What the theorem of the last text needs of these: NaRef, IdRefSame, NaMap, IdMath, NumText, NumCmp, MoReach. Conditions: as each theorem states.
-/
import Derived.Test.YtgakcdcfblgagaaGreatDoorRoA1
import Derived.Test.YtgakcdcfblgagaaGreatDoorRoA2
import Derived.WalkSpells
import Derived.StillTailTactics
import Derived.Maps.OwnSet
import Derived.Lib.TrimByte
import Derived.Test.YtgakcdcfblgagaaGreatDoorShelf
import Derived.Lib.ItoaMem
import Derived.Lib.ItoaLen
import Derived.SizedLaws
set_option maxRecDepth 100000
set_option maxHeartbeats 25600000
namespace Go.Proofs.YtgakcdcfblgagaaGreatDoor.Name
open Go.RowKit Num

theorem at_byte (s:ByteArray) (k:Nat) (h:k<s.size):(s[k].toNat:Int)=byteAt s.data.toList k:=at_text s k h

theorem ref_first_any (x:Int) (w:World) (h0:0≤x) (h1:x≤255) :
  Calls Tryz.prog 206 #[.int .u8 x] w fun e w'=>e=.returned (.bool (fstB x))∧w=w':=by
 by_cases ha:97≤x
 ·by_cases hb:x≤122
  ·have HF:=Lib.hid ((fstB_iff x).2 (.inl ⟨ha,hb⟩))
   go_enter Tryz.func206,Tryz.ntmps206
   go_wp2
   go_ret
   exact ⟨by rw [HF.out]; rfl,rfl⟩
  ·have HF:=Lib.hid (fstB_no (x:=x) (by omega))
   have hc:48≤x:=by omega
   have hd:¬ x≤57:=by omega
   go_enter Tryz.func206,Tryz.ntmps206
   go_wp2
   go_ret
   exact ⟨by rw [HF.out]; rfl,rfl⟩
 ·by_cases hc:48≤x
  ·by_cases hd:x≤57
   ·have HF:=Lib.hid ((fstB_iff x).2 (.inr ⟨hc,hd⟩))
    go_enter Tryz.func206,Tryz.ntmps206
    go_wp2
    go_ret
    exact ⟨by rw [HF.out]; rfl,rfl⟩
   ·have HF:=Lib.hid (fstB_no (x:=x) (by omega))
    go_enter Tryz.func206,Tryz.ntmps206
    go_wp2
    go_ret
    exact ⟨by rw [HF.out]; rfl,rfl⟩
  ·have HF:=Lib.hid (fstB_no (x:=x) (by omega))
   go_enter Tryz.func206,Tryz.ntmps206
   go_wp2
   go_ret
   exact ⟨by rw [HF.out]; rfl,rfl⟩

def scanOut (l:List UInt8) (p:Int):Value:=.tuple #[.int .i64 (nscan l p).1,.int .i64 (nscan l p).2]

theorem ref_scan_in (s:ByteArray) (p:Nat) (w:World) (hs:s.size≤1000000) (hp:p≤s.size) :
  Calls Tryz.prog 166 #[.string s,.int .i64 p] w fun e w'=>e=.returned (scanOut s.data.toList p)∧w=w':=by
 have LS:=Lib.hid (Lib.size_eq s)
 have hp0:¬ (p:Int)<0:=by omega
 have hp1:¬ s.size<p:=by omega
 have HA:Hid (¬ ((p:Int)<0∨(s.data.toList.length:Int)<p)):=by unfold Hid; rw [← LS.out]; omega
 have HE:Hid (∀ m,p+m≤s.size→(∀ j,j<m→okB j (byteAt s.data.toList (p+j))=true)→(p+m=s.size∨okB m (byteAt s.data.toList (p+m))=false)→nlen (s.data.toList.drop (p:Int).toNat)=m):=fun m h1 h2 h3=>by
  rw [Int.toNat_natCast]
  exact nlen_stop _ p m (by rw [← LS.out]; exact h1) h2 (by rw [← LS.out]; exact h3)
 go_enter Tryz.func166,Tryz.ntmps166
 go_wp2
 go_loop [6] (fun t=>∃ k:Nat,p+k≤s.size∧t=.int .i64 k∧Hid (∀ j,j<k→okB j (byteAt s.data.toList (p+j))=true)) (fun t=>s.size - p - (intOf t).toNat)
 case atStart=>exact ⟨0,by omega,rfl,fun j h=>by omega⟩
 case round =>
  obtain ⟨k,hk,rfl,HD⟩:=hrel
  have HO:Hid (nlen (s.data.toList.drop (p:Int).toNat)=k→(if k=0∨255<k then Value.tuple #[.int .i64 0,.int .i64 12] else .tuple #[.int .i64 k,.int .i64 0])=scanOut s.data.toList p):=fun e=>by
   unfold scanOut
   by_cases h:k=0∨255<k
   ·rw [nscan_bad HA.out (by rw [e]; exact h),if_pos h]
   ·rw [nscan_good HA.out (by rw [e]; exact h),if_neg h,e]
  by_cases hlt:p+k<s.size
  ·have HX:=Lib.hid (at_byte s (p+k) hlt)
   have hbd:=byteAt_bd s.data.toList (p+k)
   have HS:=Lib.hid (fun h=>HE.out k (by omega) HD.out (.inr h))
   have HM:Hid (okB k (byteAt s.data.toList (p+k))=true→∀ j,j<k+1→okB j (byteAt s.data.toList (p+j))=true):=fun h j hj=>by
    rcases Nat.lt_or_ge j k with hj1 | hj1
    ·exact HD.out j hj1
    ·obtain rfl:j=k:=by omega
     exact h
   clear HE
   rw [← HX.out] at hbd HS HM
   obtain ⟨hx0,hx1⟩:=hbd
   cases hf:fstB (s[p+k].toNat:Int)
   ·by_cases hk0:k=0
    ·have HN:=Lib.hid (okB_no hf (.inl hk0))
     have HK:=Lib.hid hk0
     have hk1:¬ 0<k:=by omega
     clear hk0
     have HF1:=Lib.hid hf; clear hf
     go_wp2_with fail
     refine (ref_first_any _ _ hx0 hx1).mono ?_
     rintro e w' ⟨rfl,rfl⟩
     rw [HF1.out]
     have HF:=Lib.hid (HO.out (HS.out HN.out))
     rw [if_pos (.inl HK.out)] at HF
     have hz:((k:Int) == 0)=true:=by rw [HK.out]; rfl
     go_wp2
     go_ret2
     exact ⟨by rw [← HF.out]; rfl,rfl⟩
    ·have hk1:0<k:=by omega
     have HK:=Lib.hid hk0; clear hk0
     have HF1:=Lib.hid hf; clear hf
     by_cases h1:(s[p+k].toNat:Int)=45
     ·have HN:=Lib.hid ((okB_iff k _).2 (.inr ⟨hk1,.inl h1⟩))
      have b1:((s[p+k].toNat:Int) == 45)=true:=by rw [h1]; rfl
      clear h1
      go_wp2_with fail
      refine (ref_first_any _ _ hx0 hx1).mono ?_
      rintro e w' ⟨rfl,rfl⟩
      rw [HF1.out]
      go_wp2
      go_round
      case rel=>exact ⟨k+1,by omega,by go_num,HM.out HN.out⟩
      case measure=>simp [intOf]; omega
     ·have b1:((s[p+k].toNat:Int) == 45)=false:=by simp only [beq_eq_false_iff_ne]; exact h1
      have H1:=Lib.hid h1; clear h1
      by_cases h2:(s[p+k].toNat:Int)=95
      ·have HN:=Lib.hid ((okB_iff k _).2 (.inr ⟨hk1,.inr (.inl h2)⟩))
       have b2:((s[p+k].toNat:Int) == 95)=true:=by rw [h2]; rfl
       clear h2
       go_wp2_with fail
       refine (ref_first_any _ _ hx0 hx1).mono ?_
       rintro e w' ⟨rfl,rfl⟩
       rw [HF1.out]
       go_wp2
       go_round
       case rel=>exact ⟨k+1,by omega,by go_num,HM.out HN.out⟩
       case measure=>simp [intOf]; omega
      ·have b2:((s[p+k].toNat:Int) == 95)=false:=by simp only [beq_eq_false_iff_ne]; exact h2
       have H2:=Lib.hid h2; clear h2
       by_cases h3:(s[p+k].toNat:Int)=46
       ·have HN:=Lib.hid ((okB_iff k _).2 (.inr ⟨hk1,.inr (.inr h3)⟩))
        have b3:((s[p+k].toNat:Int) == 46)=true:=by rw [h3]; rfl
        clear h3
        go_wp2_with fail
        refine (ref_first_any _ _ hx0 hx1).mono ?_
        rintro e w' ⟨rfl,rfl⟩
        rw [HF1.out]
        go_wp2
        go_round
        case rel=>exact ⟨k+1,by omega,by go_num,HM.out HN.out⟩
        case measure=>simp [intOf]; omega
       ·have HN:=Lib.hid (okB_no (k:=k) HF1.out (.inr (by rintro (h | h | h); exact H1.out h; exact H2.out h; exact h3 h)))
        have b3:((s[p+k].toNat:Int) == 46)=false:=by simp only [beq_eq_false_iff_ne]; exact h3
        have H3:=Lib.hid h3; clear h3
        go_wp2_with fail
        refine (ref_first_any _ _ hx0 hx1).mono ?_
        rintro e w' ⟨rfl,rfl⟩
        rw [HF1.out]
        by_cases hz:k=0
        ·subst hz
         have HF:=Lib.hid (HO.out (HS.out HN.out))
         go_wp2
         go_ret2
         exact ⟨by rw [← HF.out]; rfl,rfl⟩
        ·by_cases hm:255<k
         ·have HF:=Lib.hid (HO.out (HS.out HN.out))
          rw [if_pos (.inr hm)] at HF
          have hzb:((k:Int) == 0)=false:=by simp [hz]
          have HZ:=Lib.hid hz; clear hz
          go_wp2
          go_ret2
          exact ⟨by rw [← HF.out]; rfl,rfl⟩
         ·have HF:=Lib.hid (HO.out (HS.out HN.out))
          rw [if_neg (by omega)] at HF
          have hzb:((k:Int) == 0)=false:=by simp [hz]
          have HZ:=Lib.hid hz; clear hz
          go_wp2
          go_ret2
          exact ⟨by rw [← HF.out]; rfl,rfl⟩
   ·have HN:=Lib.hid ((okB_iff k _).2 (.inl hf))
    have HF1:=Lib.hid hf; clear hf
    go_wp2_with fail
    refine (ref_first_any _ _ hx0 hx1).mono ?_
    rintro e w' ⟨rfl,rfl⟩
    rw [HF1.out]
    go_wp2
    go_round
    case rel=>exact ⟨k+1,by omega,by go_num,HM.out HN.out⟩
    case measure=>simp [intOf]; omega
  ·have hpe:p+k=s.size:=by omega
   have HL:=Lib.hid (HE.out k hk HD.out (.inl hpe))
   have HP:=Lib.hid hpe; clear hpe HE
   by_cases hz:k=0
   ·subst hz
    have HF:=Lib.hid (HO.out HL.out)
    go_wp2
    go_ret2
    exact ⟨by rw [← HF.out]; rfl,rfl⟩
   ·by_cases hm:255<k
    ·have HF:=Lib.hid (HO.out HL.out)
     rw [if_pos (.inr hm)] at HF
     have hzb:((k:Int) == 0)=false:=by simp [hz]
     have HZ:=Lib.hid hz; clear hz
     go_wp2
     go_ret2
     exact ⟨by rw [← HF.out]; rfl,rfl⟩
    ·have HF:=Lib.hid (HO.out HL.out)
     rw [if_neg (by omega)] at HF
     have hzb:((k:Int) == 0)=false:=by simp [hz]
     have HZ:=Lib.hid hz; clear hz
     go_wp2
     go_ret2
     exact ⟨by rw [← HF.out]; rfl,rfl⟩

theorem ref_scan_any (s:ByteArray) (p:Int) (w:World) (hs:s.size≤1000000) :
  Calls Tryz.prog 166 #[.string s,.int .i64 p] w fun e w'=>e=.returned (scanOut s.data.toList p)∧w=w':=by
 by_cases ho:p<0∨(s.size:Int)<p
 ·have HF:Hid (scanOut s.data.toList p=.tuple #[.int .i64 0,.int .i64 1]):=by unfold Hid scanOut; rw [nscan_arg (by rw [← Lib.size_eq]; exact ho)]
  by_cases h0:p<0
  ·go_enter Tryz.func166,Tryz.ntmps166
   go_wp2
   go_ret2
   exact ⟨by rw [HF.out]; rfl,rfl⟩
  ·have h1:(s.size:Int)<p:=by omega
   clear ho
   go_enter Tryz.func166,Tryz.ntmps166
   go_wp2
   go_ret2
   exact ⟨by rw [HF.out]; rfl,rfl⟩
 ·obtain ⟨k,rfl⟩:=Int.eq_ofNat_of_zero_le (show 0≤p by omega)
  exact ref_scan_in s k w hs (by omega)

theorem ref_good_any (s:ByteArray) (w:World) (hs:s.size≤1000000) :
  Calls Tryz.prog 109 #[.string s] w fun e w'=>e=.returned (.bool (isName s.data.toList))∧w=w':=by
 have HW:=Lib.hid (nscan_whole s.data.toList)
 have LS:=Lib.hid (Lib.size_eq s)
 go_enter Tryz.func109,Tryz.ntmps109
 go_wp2_with fail
 refine (ref_scan_any _ 0 _ hs).mono ?_
 unfold scanOut
 obtain ⟨⟨n,e⟩,hr⟩:∃ t,nscan s.data.toList 0=t:=⟨_,rfl⟩
 rw [hr] at HW ⊢
 clear hr
 rintro e' w' ⟨rfl,rfl⟩
 by_cases he:e=0
 ·have hb:(e == 0)=true:=by simp [he]
  have HE:=Lib.hid he; clear he
  by_cases hn:n=s.size
  ·have hb2:(n == (s.size:Int))=true:=by simp [hn]
   have HF:Hid (isName s.data.toList=true):=HW.out.1 ⟨HE.out,by rw [← LS.out]; exact hn⟩
   have HN:=Lib.hid hn; clear hn
   go_wp2
   go_ret
   exact ⟨by rw [HF.out]; rfl,rfl⟩
  ·have hb2:(n == (s.size:Int))=false:=by simp [hn]
   have HF:Hid (isName s.data.toList=false):=by
    unfold Hid; rw [← Bool.not_eq_true,← HW.out,← LS.out]; exact fun h=>hn h.2
   have HN:=Lib.hid hn; clear hn
   go_wp2
   go_ret
   exact ⟨by rw [HF.out]; rfl,rfl⟩
 ·have hb:(e == 0)=false:=by simp [he]
  have HF:Hid (isName s.data.toList=false):=by
   unfold Hid; rw [← Bool.not_eq_true,← HW.out]; exact fun h=>he h.1
  have HE:=Lib.hid he; clear he
  go_wp2
  go_ret
  exact ⟨by rw [HF.out]; rfl,rfl⟩
end Go.Proofs.YtgakcdcfblgagaaGreatDoor.Name
namespace Go.Proofs.YtgakcdcfblgagaaGreatDoor.Ident
open Go.RowKit Num

theorem same_any (A:Option Addr) (a ca:Nat) (xs:List (List UInt8)) (B:Option Addr) (b cb:Nat) (ys:List (List UInt8)) (w:World) (hA:SRow w A a xs) (hB:SRow w B b ys) (ha:a≤maxLen) (hb:b≤maxLen) :
  Calls Tryz.prog 115 #[.slice A a ca,.slice B b cb] w fun e w'=>e=.returned (.bool (sameB xs ys))∧Below w.heap.size w w':=by
 unfold maxLen at ha hb
 have HA:=Lib.hid hA
 have HB:=Lib.hid hB
 have HLA:=Lib.hid hA.1
 have HLB:=Lib.hid hB.1
 clear hA hB
 by_cases hab:a=b
 ·subst hab
  go_enter Tryz.func115,Tryz.ntmps115
  go_wp2
  go_loopw [5] (fun i W=>∃ k:Nat,k≤a∧i=.int .i64 k∧Hid (∀ j,j<k→xs.getD j []=ys.getD j [])∧Hid (Below w.heap.size w W)) (fun i _=>a - (intOf i).toNat)
  case atStart=>exact ⟨0,Nat.zero_le _,rfl,(fun j hj=>by omega),Below.refl _ _⟩
  case round =>
   obtain ⟨k,hk,rfl,HD,HW⟩:=hrel
   by_cases hlt:k<a
   ·obtain ⟨g1,o1,rfl,hg1,hc1⟩:=(HA.out.kept HW.out).2 (by omega)
    obtain ⟨g2,o2,rfl,hg2,hc2⟩:=(HB.out.kept HW.out).2 (by omega)
    have hx1:=hc1 k hlt
    have hx2:=hc2 k hlt
    clear hc1 hc2
    obtain ⟨s,hs⟩:∃ s,mk (xs.getD k [])=s:=⟨_,rfl⟩
    obtain ⟨t,ht⟩:∃ t,mk (ys.getD k [])=t:=⟨_,rfl⟩
    have HS:Hid (s=t→xs.getD k []=ys.getD k []):=fun h=>by rw [← hs,← ht] at h; have:=congrArg (fun z:ByteArray=>z.data.toList) h; exact this
    have HS2:Hid (s≠t→xs≠ys):=fun h h2=>h (by rw [← hs,← ht,h2])
    rw [hs] at hx1
    rw [ht] at hx2
    clear hs ht
    by_cases hst:s=t
    ·have HS3:=Lib.hid (HS.out hst)
     subst hst
     have hq:(s.toList == s.toList)=true:=by simp
     have hq2:(s.toList != s.toList)=false:=by simp
     go_wp2
     go_still (by kernel_rfl)
     have HW2:=Lib.hid HW.out.drew
     go_wp2
     refine ⟨⟨k+1,by omega,by go_num,(fun j hj=>?_),HW2.out⟩,by simp [intOf]; omega⟩
     rcases Nat.lt_or_ge j k with hj1 | hj1
     ·exact HD.out j hj1
     ·obtain rfl:j=k:=by omega
      exact HS3.out
    ·have HS3:=Lib.hid (HS2.out hst)
     have hq:(s.toList == t.toList)=false:=by
      rw [Lib.toList_data,Lib.toList_data,beq_eq_false_iff_ne]
      exact fun h=>hst (by have:=congrArg mk h; exact this)
     have hq2:(s.toList != t.toList)=true:=by rw [bne,hq]; rfl
     clear hst
     go_wp2
     go_still (by kernel_rfl)
     have HW2:=Lib.hid HW.out.drew
     go_wp2
     go_ret
     exact ⟨by rw [sameB_no HS3.out]; rfl,HW2.out⟩
   ·have HF:Hid (sameB xs ys=true):=(sameB_iff xs ys).2 (List.ext_getElem (by rw [HLA.out,HLB.out]) fun j h1 h2=>by
     have:=HD.out j (by rw [HLA.out] at h1; omega)
     simpa [List.getD,List.getElem?_eq_getElem h1,List.getElem?_eq_getElem h2] using this)
    go_wp2
    go_ret
    exact ⟨by rw [HF.out]; rfl,HW.out⟩
 ·have HF:Hid (sameB xs ys=false):=sameB_no fun h=>hab (by rw [← HLA.out,← HLB.out,h])
  have hq:((a:Int) == (b:Int))=false:=by simp; omega
  have hq2:((a:Int) != (b:Int))=true:=by simp; omega
  go_enter Tryz.func115,Tryz.ntmps115
  go_wp2
  go_ret
  exact ⟨by rw [HF.out]; rfl,Below.refl _ _⟩
end Go.Proofs.YtgakcdcfblgagaaGreatDoor.Ident
namespace Go.Proofs.YtgakcdcfblgagaaGreatDoor.Name
open Go.RowKit Num
open Go.Maps (IsMap)
structure Numbers (D:DataW Unit) (x:List (List UInt8)):Prop where
 map:IsMap D
 has:∀ s,Maps.has D (.string s)=decide (s ∈ x)
 num:∀ s,s ∈ x→D.atKey (.string s) (.lit (.int .i64 0))=.lit (.int .i64 ((find x s:Nat):Int))
theorem Numbers.empty:Numbers (.map []) []:=⟨Go.Maps.isMap_empty,fun s=>by simp [Maps.has],fun s h=>by cases h⟩
theorem Numbers.add {D:DataW Unit} {x:List (List UInt8)} {s:List UInt8} (h:Numbers D x) (hs:s ∉ x):Numbers (D.put (.string s) (.lit (.int .i64 ((x.length:Nat):Int)))) (x ++ [s]):=by
 refine ⟨h.map.put _ _,fun t=>?_,fun t ht=>?_⟩
 ·by_cases e:t=s
  ·subst e
   rw [Go.Maps.has_put_same h.map (show WideAt.IsKeyLit (.string t) from by simp [WideAt.IsKeyLit])]; simp
  ·rw [Go.Maps.has_put_other (fun e2=>e (by injection e2)),h.has]; simp [e]
 ·by_cases e:t=s
  ·subst e
   rw [Go.Maps.atKey_put_same h.map (show WideAt.IsKeyLit (.string t) from by simp [WideAt.IsKeyLit]),find_snoc_new hs]
  ·have hx:t ∈ x:=by simpa [e] using ht
   rw [Go.Maps.atKey_put_other (fun e2=>e (by injection e2)),h.num t hx,find_snoc_old (find_lt.2 hx)]
theorem Numbers.miss {D:DataW Unit} {x:List (List UInt8)} {s:List UInt8} (h:Numbers D x) (hs:s ∉ x):Maps.has D (.string s)=false:=by rw [h.has]; simp [hs]
end Go.Proofs.YtgakcdcfblgagaaGreatDoor.Name
namespace Go.Proofs.YtgakcdcfblgagaaGreatDoor.Ident
open Num

def isLet (b:UInt8):Bool:=decide ((65≤b.toNat∧b.toNat≤90)∨(97≤b.toNat∧b.toNat≤122))
def isId (b:UInt8):Bool:=isDig b || isLet b || decide (b.toNat=45)
def lead:List UInt8→Nat
 | []=>0
 | b :: r=>if isId b then lead r+1 else 0

theorem isLet_iff (b:UInt8):isLet b=true↔(65≤b.toNat∧b.toNat≤90)∨(97≤b.toNat∧b.toNat≤122):=by simp [isLet]

theorem lead_le (l:List UInt8):lead l≤l.length:=by
 induction l with
 | nil=>simp [lead]
 | cons b r ih=>simp only [lead,List.length_cons]; split <;> omega

theorem lead_skip (l:List UInt8) (k:Nat) (hk:k≤l.length) (h:∀ j,j<k→isId (l.getD j 0)=true):lead l=k+lead (l.drop k):=by
 induction k generalizing l with
 | zero=>simp
 | succ k ih =>
  cases l with
  | nil=>simp at hk
  | cons b r =>
   have h0:isId b=true:=by simpa using h 0 (by omega)
   have:=ih r (by simpa using hk) (fun j hj=>by simpa using h (j+1) (by omega))
   simp only [lead,h0,if_true,List.drop_succ_cons]; omega

theorem drop_getD (l:List UInt8) (k:Nat) (h:k<l.length):l.drop k=l.getD k 0 :: l.drop (k+1):=by
 rw [List.drop_eq_getElem_cons h]; simp [List.getD,List.getElem?_eq_getElem h]

theorem lead_stop (l:List UInt8) (k:Nat) (hk:k≤l.length) (h:∀ j,j<k→isId (l.getD j 0)=true) (he:k=l.length∨isId (l.getD k 0)=false):lead l=k:=by
 rw [lead_skip l k hk h]
 rcases he with he | he
 ·subst he; simp [lead]
 ·rcases Nat.lt_or_ge k l.length with hlt | hge
  ·rw [drop_getD l k hlt,lead,he]; simp
  ·rw [List.drop_eq_nil_of_le hge]; simp [lead]

theorem lead_full {l:List UInt8}:lead l=l.length↔∀ b ∈ l,isId b=true:=by
 induction l with
 | nil=>simp [lead]
 | cons b r ih =>
  rw [lead]
  by_cases hb:isId b=true
  ·simp [hb,← ih]
  ·have:=lead_le r
   simp [hb]

def numeric (l:List UInt8):Bool:=decide (0<l.length∧run l=l.length)
theorem numeric_iff (l:List UInt8):numeric l=true↔0<l.length∧run l=l.length:=by simp [numeric]
theorem numeric_no (l:List UInt8):numeric l=false↔¬ (0<l.length∧run l=l.length):=by
 rw [← numeric_iff]; cases numeric l <;> simp

def fault (s:List UInt8) (i:Nat) (pre:Bool):Nat :=
 if s.length=0 then 5 else if 255<s.length∨16≤i then 4 else if pre=true∧numeric s=true∧isNum s=false then 3 else 0
theorem fault_pos {s:List UInt8} {i:Nat} {pre:Bool} (h:fault s i pre=0):0<s.length∧s.length≤255∧i<16:=by
 unfold fault at h
 split at h
 ·omega
 ·split at h
  ·omega
  ·rename_i h1 h2; omega

abbrev Res:=Nat × Nat × List (List UInt8)
def shut (pre:Bool) (w:List UInt8) (acc:List (List UInt8)) (n:Nat):Res :=
 if fault w acc.length pre=0 then (0,n,acc ++ [w]) else (fault w acc.length pre,0,[])
def go (pre:Bool):List UInt8→List UInt8→List (List UInt8)→Nat→Res
 | [],w,acc,n=>shut pre w acc n
 | b :: r,w,acc,n =>
  if isId b then go pre r (w ++ [b]) acc (n+1)
  else if b.toNat=46 then (if fault w acc.length pre=0 then go pre r [] (acc ++ [w]) (n+1) else (fault w acc.length pre,0,[]))
  else shut pre w acc n
def row (l:List UInt8) (p:Int) (pre:Bool):Res:=if p<0∨(l.length:Int)<p then (1,0,[]) else go pre (l.drop p.toNat) [] [] 0

theorem point_no:isId 46=false:=by decide
theorem go_id {pre:Bool} {b:UInt8} {r w:List UInt8} {acc:List (List UInt8)} {n:Nat} (h:isId b=true):go pre (b :: r) w acc n=go pre r (w ++ [b]) acc (n+1):=by
 rw [go,if_pos h]
theorem go_point {pre:Bool} {b:UInt8} {r w:List UInt8} {acc:List (List UInt8)} {n:Nat} (hb:b.toNat=46) (hf:fault w acc.length pre=0):go pre (b :: r) w acc n=go pre r [] (acc ++ [w]) (n+1):=by
 have e:b=46:=UInt8.toNat_inj.1 hb
 subst e
 rw [go,point_no]
 simp [hf]
theorem go_else {pre:Bool} {b:UInt8} {r w:List UInt8} {acc:List (List UInt8)} {n:Nat} (h:isId b=false) (hb:b.toNat≠46):go pre (b :: r) w acc n=shut pre w acc n:=by
 rw [go,h]; simp [hb]

def numeral (l:List UInt8):List UInt8:=if (Lib.trimLeftB l 48).length=0 then [48] else Lib.trimLeftB l 48

theorem trim_val (l:List UInt8):val (Lib.trimLeftB l 48)=val l:=by
 unfold Lib.trimLeftB
 induction l with
 | nil=>rfl
 | cons b r ih =>
  rw [List.dropWhile_cons]
  split
  ·rename_i hb
   have e:b=48:=by simpa using hb
   rw [ih,val_cons,e]; simp
  ·rfl
theorem trim_dig {l:List UInt8} (h:AllDig l):AllDig (Lib.trimLeftB l 48):=by
 intro b hb
 exact h b ((List.dropWhile_sublist _).subset hb)
theorem trim_pad (l:List UInt8):pad (Lib.trimLeftB l 48)=false:=by
 rw [pad_no]
 rintro ⟨h1,h2⟩
 unfold Lib.trimLeftB at h1 h2
 induction l with
 | nil=>simp at h1
 | cons b r ih =>
  rw [List.dropWhile_cons] at h1 h2
  split at h1
  ·rename_i hb
   rw [if_pos hb] at h2
   exact ih h1 h2
  ·rename_i hb
   rw [if_neg hb] at h2
   have:b.toNat=(48:UInt8).toNat:=by simpa using h2
   exact hb (by simp [UInt8.toNat_inj.1 this])
theorem numeral_num {l:List UInt8} (h:AllDig l):isNum (numeral l)=true:=by
 unfold numeral
 split
 ·decide
 ·rename_i h0
  rw [isNum_iff]
  exact ⟨by omega,run_all (trim_dig h),trim_pad l⟩
theorem numeral_val (l:List UInt8):val (numeral l)=val l:=by
 unfold numeral
 split
 ·rename_i h0
  have e:=List.eq_nil_of_length_eq_zero h0
  have:=trim_val l
  rw [e] at this
  rw [← this]; decide
 ·exact trim_val l

def cmpId (a b:List UInt8):Int :=
 if numeric a=true then
  if numeric b=true then (if ordN (val a) (val b)=0 then ordN a.length b.length else ordN (val a) (val b))
  else -1
 else if numeric b=true then 1 else Lib.compareBytes a b

theorem cmp_bytes_trans:∀ (a b c:List UInt8),Lib.compareBytes a b≤0→Lib.compareBytes b c≤0→Lib.compareBytes a c≤0:=by
 intro a
 induction a with
 | nil=>intro b c _ _; cases c <;> simp [Lib.compareBytes]
 | cons x a ih =>
  intro b c h1 h2
  cases b with
  | nil=>simp [Lib.compareBytes] at h1
  | cons y b =>
   cases c with
   | nil=>simp [Lib.compareBytes] at h2
   | cons z c =>
    unfold Lib.compareBytes at h1 h2 ⊢
    simp only [UInt8.lt_iff_toNat_lt] at h1 h2 ⊢
    by_cases hxy:x.toNat<y.toNat
    ·by_cases hyz:y.toNat<z.toNat
     ·rw [if_pos (by omega)]; omega
     ·by_cases hzy:z.toNat<y.toNat
      ·rw [if_neg hyz,if_pos hzy] at h2; omega
      ·rw [if_pos (by omega)]; omega
    ·by_cases hyx:y.toNat<x.toNat
     ·rw [if_neg hxy,if_pos hyx] at h1; omega
     ·rw [if_neg hxy,if_neg hyx] at h1
      by_cases hyz:y.toNat<z.toNat
      ·rw [if_pos (by omega)]; omega
      ·by_cases hzy:z.toNat<y.toNat
       ·rw [if_neg hyz,if_pos hzy] at h2; omega
       ·rw [if_neg hyz,if_neg hzy] at h2
        rw [if_neg (by omega),if_neg (by omega)]
        exact ih b c h1 h2
theorem cmp_bytes_self (a:List UInt8):Lib.compareBytes a a=0:=by
 induction a with
 | nil=>rfl
 | cons x a ih=>unfold Lib.compareBytes; simp [UInt8.lt_irrefl,ih]

theorem ordN_cases (x y:Nat):(x<y∧ordN x y=-1)∨(x=y∧ordN x y=0)∨(y<x∧ordN x y=1):=by
 rcases Nat.lt_trichotomy x y with h | h | h
 ·exact .inl ⟨h,ordN_lt h⟩
 ·exact .inr (.inl ⟨h,ordN_eq h⟩)
 ·exact .inr (.inr ⟨h,ordN_gt h⟩)

theorem cmpId_self (a:List UInt8):cmpId a a=0:=by
 unfold cmpId
 split
 ·rw [ordN_eq rfl,if_pos rfl,ordN_eq rfl]
 ·exact cmp_bytes_self a

theorem cmpId_trans (a b c:List UInt8) (h1:cmpId a b≤0) (h2:cmpId b c≤0):cmpId a c≤0:=by
 unfold cmpId at h1 h2 ⊢
 by_cases ha:numeric a=true
 ·by_cases hc:numeric c=true
  ·by_cases hb:numeric b=true
   ·rw [if_pos ha,if_pos hb] at h1
    rw [if_pos hb,if_pos hc] at h2
    rw [if_pos ha,if_pos hc]
    rcases ordN_cases (val a) (val b) with ⟨e1,e2⟩ | ⟨e1,e2⟩ | ⟨e1,e2⟩ <;>
    rcases ordN_cases (val b) (val c) with ⟨g1,g2⟩ | ⟨g1,g2⟩ | ⟨g1,g2⟩ <;>
    rcases ordN_cases (val a) (val c) with ⟨k1,k2⟩ | ⟨k1,k2⟩ | ⟨k1,k2⟩ <;>
    rcases ordN_cases a.length b.length with ⟨e3,e4⟩ | ⟨e3,e4⟩ | ⟨e3,e4⟩ <;>
    rcases ordN_cases b.length c.length with ⟨g3,g4⟩ | ⟨g3,g4⟩ | ⟨g3,g4⟩ <;>
    rcases ordN_cases a.length c.length with ⟨k3,k4⟩ | ⟨k3,k4⟩ | ⟨k3,k4⟩ <;>
    simp [e2,e4] at h1 <;> simp [g2,g4] at h2 <;> simp [k2,k4] <;> omega
   ·rw [if_neg hb,if_pos hc] at h2; omega
  ·rw [if_pos ha,if_neg hc]; omega
 ·by_cases hb:numeric b=true
  ·rw [if_neg ha,if_pos hb] at h1; omega
  ·rw [if_neg ha,if_neg hb] at h1
   by_cases hc:numeric c=true
   ·rw [if_neg hb,if_pos hc] at h2; omega
   ·rw [if_neg hb,if_neg hc] at h2
    rw [if_neg ha,if_neg hc]
    exact cmp_bytes_trans a b c h1 h2

def cmpRows:List (List UInt8)→List (List UInt8)→Int
 | a :: r,b :: s=>if cmpId a b=0 then cmpRows r s else cmpId a b
 | r,s=>ordN r.length s.length
theorem cmpRows_nil (s:List (List UInt8)):cmpRows [] s=ordN 0 s.length:=by unfold cmpRows; rfl
theorem cmpRows_nil' (r:List (List UInt8)):cmpRows r []=ordN r.length 0:=by cases r <;> simp [cmpRows]
theorem cmpRows_same {a b:List UInt8} {r s:List (List UInt8)} (h:cmpId a b=0):cmpRows (a :: r) (b :: s)=cmpRows r s:=by rw [cmpRows,if_pos h]
theorem cmpRows_diff {a b:List UInt8} {r s:List (List UInt8)} (h:cmpId a b≠0):cmpRows (a :: r) (b :: s)=cmpId a b:=by rw [cmpRows,if_neg h]

/-! How long a row is. -/

def shortB (xs:List (List UInt8)):Bool:=decide (xs.length≤40∧∀ x ∈ xs,x.length≤300)
theorem shortB_iff (xs:List (List UInt8)):shortB xs=true↔xs.length≤40∧∀ x ∈ xs,x.length≤300:=by simp [shortB]
end Go.Proofs.YtgakcdcfblgagaaGreatDoor.Ident
namespace Go.Proofs.YtgakcdcfblgagaaGreatDoor.Num
open Go.RowKit Go.Sort

def Tab (w:World):Prop:=Lib.TabIs Tryz.prog w "internal/strconv.uint64pow10" .u64 Lib.pow10Tab
theorem Tab.kept {w w':World} (h:Tab w) (hb:Below w.heap.size w w'):Tab w':=by
 unfold Tab Lib.TabIs World.var? at *
 cases hg:Tryz.prog.globalNamed "internal/strconv.uint64pow10" with
 | none=>simp [hg] at h
 | some g =>
  simp only [hg,Option.bind_some] at h ⊢
  have hlt:g<w.heap.size:=by
   rcases Nat.lt_or_ge g w.heap.size with h' | h'
   ·exact h'
   ·rw [Array.getElem?_eq_none h'] at h; simp at h
  rw [hb.block g hlt]
  exact h

theorem below_grow (w:World) (k:Nat) (os:Array Obj):Below w.heap.size w (grow (w.drewN k) os):=by
 refine ⟨rfl,rfl,rfl,?_,fun j hj=>?_⟩
 ·show w.heap.size≤(w.heap ++ os).size
  simp
 ·show (w.heap ++ os)[j]?=_
  rw [Array.getElem?_append_left hj]

theorem holds_zero0 (w:World) (T:TypeId) (nd:Nat) (hs:nd≤24):Holds (fun (b:UInt8)=>Value.int .u8 b.toNat) (w.alloc (.cells Lib.zeros24 T)) w.heap.size 0 (Array.replicate nd (0:UInt8)):=fun j hj=>by
 have hj':j<nd:=by simpa using hj
 refine ⟨?_,World.frozen?_alloc_new _ _ _ _⟩
 rw [World.cell?_alloc_new,Lib.zeros24_at _ (by omega),getElem!_pos _ j hj]
 simp

theorem fmt_any (u:Nat) (h:u<18446744073709551616) (w:World) (htab:Tab w) :
  Calls Tryz.prog 192 #[.int .u64 u,.int .i64 10] w fun e w'=>e=.returned (.string ⟨(Lib.decDigits u).toArray⟩)∧Below w.heap.size w w':=by
 have HU:=Lib.hid h; clear h
 by_cases hs:u<100
 ·go_enter Tryz.func192,Tryz.ntmps192
  go_wp2_with fail
  refine (Tryz.internal_strconv_small u hs _).mono ?_
  rintro e w' ⟨rfl,rfl⟩
  go_wp2
  go_ret
  exact ⟨rfl,Below.refl _ _⟩
 ·have hu1:1≤u:=by omega
  have hnd:=Lib.nDigits_le20 u HU.out
  have hal:Tryz.prog.arrayLen 296=24:=by simp [Program.arrayLen,Tryz.underlying296]
  have hsl:∀ W,(Instr.sliceAt 296 (.pointer (some ⟨w.heap.size,0,none⟩)) none (some (.int .i64 (Lib.nDigits u))) none).run Tryz.prog W=.ok (.slice (some ⟨w.heap.size,0,none⟩) (Lib.nDigits u) 24) W:=fun W=>by
   rw [run_sliceAt_array_h W 296 ⟨w.heap.size,0,none⟩ (by simp [Program.arrayLen,Program.elem,Tryz.underlying296]) .i64 (Lib.nDigits u:Int) (by omega) (by rw [hal]; omega)]
   go_simp
  have hH0:=holds_zero0 w 296 (Lib.nDigits u) (by omega)
  have hfmt:=Tryz.internal_strconv_formatBase10 w.heap.size 0 24 u (Array.replicate (Lib.nDigits u) 0) (w.alloc (.cells Lib.zeros24 296)) hH0 (by rw [Array.size_replicate]; exact Lib.lt_pow_nDigits u) HU.out (by rw [Array.size_replicate]; omega)
  rw [Array.size_replicate] at hfmt
  have HH0:=Lib.hid hH0
  have HFMT:=Lib.hid hfmt
  have HT:=Lib.hid htab
  clear hH0 hal hfmt htab
  go_enter Tryz.func192,Tryz.ntmps192
  go_wp2_with fail
  refine (Tryz.internal_strconv_numDigits u hu1 HU.out _ (Lib.tabIs_alloc HT.out _)).mono ?_
  rintro e w' ⟨rfl,rfl⟩
  go_wp2_with fail
  refine HFMT.out.mono ?_
  rintro e w' ⟨rfl,k,v',dk,rfl,hF⟩
  have hcv:(convert 22 9 (.slice (some ⟨w.heap.size,0,none⟩) (Lib.nDigits u) 24)).run Tryz.prog ((putRow (fun (b:UInt8)=>Value.int .u8 b.toNat) (w.alloc (.cells Lib.zeros24 296)) w.heap.size 0 dk).drewN k)=.ok (.string ⟨(Lib.decDigits u).toArray⟩) ((putRow (fun (b:UInt8)=>Value.int .u8 b.toNat) (w.alloc (.cells Lib.zeros24 296)) w.heap.size 0 dk).drewN k):=by
   have h:=run_convert_bytes_back (P:=Tryz.prog) ((putRow (fun (b:UInt8)=>Value.int .u8 b.toNat) (w.alloc (.cells Lib.zeros24 296)) w.heap.size 0 dk).drewN k) 22 9 5 ⟨w.heap.size,0,none⟩ 24 (Lib.decDigits u) Tryz.underlying22 Tryz.underlying5 Tryz.underlying9 (fun j hj=>by
    rw [Lib.row_is_numeral hF j hj,Lib.add_plain,World.cell?_drewN]
    exact cell?_putRow (fun (b:UInt8)=>Value.int .u8 b.toNat) _ w.heap.size 0 _ dk HH0.out (by rw [hF.size,Array.size_replicate]) j (by rw [hF.size]; rw [Lib.decDigits_length] at hj; exact hj))
   rw [Lib.decDigits_length] at h
   exact h
  have HB:Hid (Below w.heap.size w ((putRow (fun (b:UInt8)=>Value.int .u8 b.toNat) (w.alloc (.cells Lib.zeros24 296)) w.heap.size 0 dk).drewN k)):=by
   obtain ⟨os',_,e⟩:=putRow_grow_new (fun (b:UInt8)=>Value.int .u8 b.toNat) w #[.cells Lib.zeros24 296] w.heap.size 0 dk (Nat.le_refl _)
   unfold Hid
   rw [alloc_eq_grow,e]
   exact below_grow w k os'
  generalize (putRow (fun (b:UInt8)=>Value.int .u8 b.toNat) (w.alloc (.cells Lib.zeros24 296)) w.heap.size 0 dk).drewN k=W at hcv HB ⊢
  go_wp2
  go_ret
  exact ⟨rfl,HB.out⟩

theorem format_any (u:Nat) (h:u<18446744073709551616) (w:World) (htab:Tab w) :
  Calls Tryz.prog 147 #[.int .u64 u,.int .i64 10] w fun e w'=>e=.returned (.string ⟨(Lib.decDigits u).toArray⟩)∧Below w.heap.size w w':=by
 have HU:=Lib.hid h; clear h
 have HT:=Lib.hid htab; clear htab
 go_enter Tryz.func147,Tryz.ntmps147
 go_wp2_with fail
 refine (fmt_any u HU.out _ HT.out).mono ?_
 rintro e w1 ⟨rfl,hb1⟩
 go_wp2
 go_ret
 exact ⟨rfl,hb1⟩

theorem text_any (u:Nat) (h:u<18446744073709551616) (w:World) (htab:Tab w) :
  Calls Tryz.prog 93 #[.int .u64 u] w fun e w'=>e=.returned (.string ⟨(Lib.decDigits u).toArray⟩)∧Below w.heap.size w w':=by
 have HU:=Lib.hid h; clear h
 have HT:=Lib.hid htab; clear htab
 go_enter Tryz.func93,Tryz.ntmps93
 go_wp2_with fail
 refine (format_any u HU.out _ HT.out).mono ?_
 rintro e w1 ⟨rfl,hb1⟩
 go_wp2
 go_ret
 exact ⟨rfl,hb1⟩

theorem dec_all (u:Nat):AllDig (Lib.decDigits u):=by
 induction u using Nat.strongRecOn with
 | _ u ih =>
  rw [Lib.decDigits]
  split
  ·rename_i h
   intro b hb
   simp only [List.mem_singleton] at hb
   subst hb
   rw [isDig_iff,UInt8.toNat_ofNat']; omega
  ·rename_i h
   intro b hb
   rw [List.mem_append] at hb
   rcases hb with hb | hb
   ·exact ih (u / 10) (by omega) b hb
   ·simp only [List.mem_singleton] at hb
    subst hb
    rw [isDig_iff,UInt8.toNat_ofNat']; omega
theorem dec_val (u:Nat):val (Lib.decDigits u)=u:=by
 induction u using Nat.strongRecOn with
 | _ u ih =>
  rw [Lib.decDigits]
  split
  ·rename_i h
   rw [val_cons]
   simp [UInt8.toNat_ofNat',val,valFrom]; omega
  ·rename_i h
   rw [val_snoc,ih (u / 10) (by omega),UInt8.toNat_ofNat']; omega
theorem dec_pos (u:Nat):0<(Lib.decDigits u).length:=by rw [Lib.decDigits_length]; exact Lib.nDigits_pos u
theorem nd_le:∀ (k u:Nat),u<10 ^ k→1≤k→Lib.nDigits u≤k
 | 0,_,_,h=>by omega
 | k+1,u,h1,_=>by
  by_cases h:u<10
  ·rw [Lib.nDigits_small h]; omega
  ·rw [Lib.nDigits_big h]
   rw [Nat.pow_succ] at h1
   rcases Nat.eq_zero_or_pos k with h0 | h0
   ·subst h0; simp at h1; omega
   ·have:=nd_le k (u / 10) (by omega) h0
    omega
theorem dec_pad (u:Nat):pad (Lib.decDigits u)=false:=by
 rw [pad_no]
 rintro ⟨h1,h2⟩
 rw [Lib.decDigits_length] at h1
 have hv:=dec_val u
 have hl:=Lib.decDigits_length u
 cases hd:Lib.decDigits u with
 | nil=>rw [hd] at hl; simp at hl; omega
 | cons b r =>
  rw [hd] at hv h2 hl
  have ha:=dec_all u
  rw [hd,allDig_cons] at ha
  have hr:=val_lt ha.2
  have hb:b.toNat=48:=by simpa using h2
  rw [val_cons,hb] at hv
  simp at hv hl
  rw [hv] at hr
  have:=nd_le r.length u hr (by omega)
  omega
theorem dec_num (u:Nat):isNum (Lib.decDigits u)=true:=by
 rw [isNum_iff]
 exact ⟨dec_pos u,run_all (dec_all u),dec_pad u⟩
end Go.Proofs.YtgakcdcfblgagaaGreatDoor.Num
namespace Go.Proofs.YtgakcdcfblgagaaGreatDoor.Num
open Go.RowKit

theorem cmp_any (x y:Nat) (w:World) :
  Calls Tryz.prog 180 #[.int .i64 x,.int .i64 y] w fun e w'=>e=.returned (.int .i64 (ordN x y))∧w=w':=by
 rcases Nat.lt_trichotomy x y with h | h | h
 ·have HF:=Lib.hid (ordN_lt h)
  go_enter Tryz.func180,Tryz.ntmps180
  go_wp2
  go_ret
  exact ⟨by rw [HF.out]; rfl,rfl⟩
 ·have HF:=Lib.hid (ordN_eq h)
  subst h
  go_enter Tryz.func180,Tryz.ntmps180
  go_wp2
  go_ret
  exact ⟨by rw [HF.out]; rfl,rfl⟩
 ·have HF:=Lib.hid (ordN_gt h)
  go_enter Tryz.func180,Tryz.ntmps180
  go_wp2
  go_ret
  exact ⟨by rw [HF.out]; rfl,rfl⟩

theorem strcmp_any (s t:ByteArray) (w:World) :
  Calls Tryz.prog 97 #[.string s,.string t] w fun e w'=>e=.returned (.int .i64 (Lib.compareBytes s.data.toList t.data.toList))∧w=w':=by
 have hx:∀ W,(callFunc 196 #[.string s,.string t]).run Tryz.prog W=.ok (.value (.int .i64 (Lib.compareBytes s.data.toList t.data.toList))) W:=fun W=>by
  rw [run_callFunc_extern Tryz.func196 (by kernel_rfl) (by kernel_rfl) (by kernel_rfl) (e:=Extern.BytealgCompare.compare) (by kernel_rfl),Lib.run_compareString]
  rfl
 generalize Lib.compareBytes s.data.toList t.data.toList=r at hx ⊢
 go_enter Tryz.func97,Tryz.ntmps97
 go_wp2
 go_ret
 exact ⟨rfl,rfl⟩

theorem compare_anyD (s t:ByteArray) (w:World) (hs:s.size≤maxLen) (ht:t.size≤maxLen) :
  Calls Tryz.prog 243 #[.string s,.string t] w fun e w'=>e=.returned (.int .i64 (cmpNum s.data.toList t.data.toList))∧BelowD w.heap.size w w':=by
 have hs':=hs
 have ht':=ht
 unfold maxLen at hs' ht'
 have HS:=Lib.hid hs
 have HT:=Lib.hid ht
 clear hs ht
 have LS:=Lib.hid (Lib.size_eq s)
 have LT:=Lib.hid (Lib.size_eq t)
 cases ha:isNum s.data.toList
 ·have HF:=Lib.hid (cmpNum_no (b:=t.data.toList) (.inl ha))
  have HA:=Lib.hid ha; clear ha
  go_enter Tryz.func243,Tryz.ntmps243
  go_wp2_with fail
  refine (is_anyD s _ HS.out).mono ?_
  rintro e w1 ⟨rfl,hb1⟩
  rw [HA.out]
  go_wp2
  go_ret
  exact ⟨by rw [HF.out]; rfl,hb1⟩
 ·cases hb:isNum t.data.toList
  ·have HF:=Lib.hid (cmpNum_no (a:=s.data.toList) (.inr hb))
   have HA:=Lib.hid ha; clear ha
   have HB:=Lib.hid hb; clear hb
   go_enter Tryz.func243,Tryz.ntmps243
   go_wp2_with fail
   refine (is_anyD s _ HS.out).mono ?_
   rintro e w1 ⟨rfl,hb1⟩
   rw [HA.out]
   go_wp2_with fail
   refine (is_anyD t _ HT.out).mono ?_
   rintro e w2 ⟨rfl,hb2⟩
   rw [HB.out]
   have hz1:=hb1.size
   go_wp2
   go_ret
   exact ⟨by rw [HF.out]; rfl,hb1.trans (hb2.mono hz1)⟩
  ·have HF:=Lib.hid (cmpNum_yes ha hb)
   have HG:=Lib.hid (fun h=>ordN_lt (shorter ha hb h))
   have HG2:=Lib.hid (fun h=>ordN_gt (shorter hb ha h))
   have HG3:=Lib.hid (fun h=>alike_val ha hb h)
   have HA:=Lib.hid ha; clear ha
   have HB:=Lib.hid hb; clear hb
   go_enter Tryz.func243,Tryz.ntmps243
   go_wp2_with fail
   refine (is_anyD s _ HS.out).mono ?_
   rintro e w1 ⟨rfl,hb1⟩
   rw [HA.out]
   go_wp2_with fail
   refine (is_anyD t _ HT.out).mono ?_
   rintro e w2 ⟨rfl,hb2⟩
   rw [HB.out]
   have hz1:=hb1.size
   have HBB:=Lib.hid (hb1.trans (hb2.mono hz1))
   go_wp2_with fail
   refine (cmp_any _ _ _).mono ?_
   rintro e w' ⟨rfl,rfl⟩
   rcases Nat.lt_trichotomy s.size t.size with h | h | h
   ·rw [ordN_lt h]
    go_wp2
    go_ret
    exact ⟨by rw [HF.out,HG.out (by rw [← LS.out,← LT.out]; exact h)]; rfl,HBB.out⟩
   ·rw [ordN_eq h]
    have H:=Lib.hid h; clear h
    go_wp2_with fail
    refine (strcmp_any _ _ _).mono ?_
    rintro e w' ⟨rfl,rfl⟩
    go_wp2
    go_ret
    exact ⟨by rw [HF.out,← HG3.out (by rw [← LS.out,← LT.out]; exact H.out)]; rfl,HBB.out⟩
   ·rw [ordN_gt h]
    go_wp2
    go_ret
    exact ⟨by rw [HF.out,HG2.out (by rw [← LS.out,← LT.out]; exact h)]; rfl,HBB.out⟩
end Go.Proofs.YtgakcdcfblgagaaGreatDoor.Num
namespace Go.Proofs.YtgakcdcfblgagaaGreatDoor.Came
open Go.ChangeShapes Go.WideShapes Go.RowKit
def Sized {H:Type} (t:TypeId) (d:DataW H):Prop:=(d.weights Tryz.prog t).all (·≤reachBytes)=true
theorem sized_each {H:Type} {ts:List TypeId} {ds:List (DataW H)} (h:(DataW.weightsEach Tryz.prog ts ds).all (·≤reachBytes)=true) {j:Nat} {t:TypeId} {d:DataW H} (ht:ts[j]?=some t) (hd:ds[j]?=some d):Sized t d:=by
 unfold Sized
 rw [List.all_eq_true] at h ⊢
 exact fun n hn=>h n (DataW.weights_mem_each ht hd n hn)
theorem Sized.part {H:Type} {t:TypeId} {fs:Array Field} {xs:List (DataW H × List MemPlace)} (h:Sized t (.agg (xs.map (·.1)):DataW H)) (hu:Tryz.prog.underlying t=some (.struct fs)) {i:Nat} {e:TypeId} {y:DataW H × List MemPlace} (hf:(fs[i]?).map (·.type)=some e) (hy:xs[i]?=some y):Sized e y.1:=by
 obtain ⟨f,hf,rfl⟩:=Option.map_eq_some_iff.1 hf
 unfold Sized at h
 simp only [DataW.weights,hu] at h
 exact sized_each h (j:=i) (by simp [hf]) (by simp [hy])
theorem weightsAll_mem {H:Type} {P:Program} {e:TypeId}:∀ {l:List (DataW H)} {d:DataW H},d ∈ l→∀ n ∈ d.weights P e,n ∈ DataW.weightsAll P e l
 | x :: l,d,hd,n,hn=>by
  simp only [DataW.weightsAll,List.mem_append]
  rcases List.mem_cons.1 hd with rfl | h
  ·exact Or.inl hn
  ·exact Or.inr (weightsAll_mem h n hn)
theorem Sized.len {H:Type} {t e:TypeId} {xs zs:List (DataW H × List MemPlace)} (h:Sized t (.slice (xs.map (·.1)) (zs.map (·.1)):DataW H)) (hu:Tryz.prog.underlying t=some (.slice e)):xs.length * Tryz.prog.bytesOf e≤reachBytes:=by
 unfold Sized at h
 rw [List.all_eq_true] at h
 have:=h ((xs.length+zs.length) * Tryz.prog.bytesOf e) (by simp only [DataW.weights,hu,List.length_map,List.mem_cons,true_or])
 have h2:(xs.length+zs.length) * Tryz.prog.bytesOf e≤reachBytes:=by simpa using this
 exact Nat.le_trans (Nat.mul_le_mul_right _ (Nat.le_add_right _ _)) h2
theorem Sized.elem {H:Type} {t e:TypeId} {xs zs:List (DataW H × List MemPlace)} (h:Sized t (.slice (xs.map (·.1)) (zs.map (·.1)):DataW H)) (hu:Tryz.prog.underlying t=some (.slice e)) {i:Nat} {y:DataW H × List MemPlace} (hy:xs[i]?=some y):Sized e y.1:=by
 unfold Sized at h ⊢
 rw [List.all_eq_true] at h ⊢
 intro n hn
 refine h n ?_
 have hm:n ∈ DataW.weightsAll Tryz.prog e (xs.map (·.1)):=weightsAll_mem (List.mem_map.2 ⟨y,List.mem_of_getElem? hy,rfl⟩) n hn
 simp only [DataW.weights,hu,List.mem_cons,List.mem_append]
 exact Or.inr (Or.inl hm)
theorem texts_len {H:Type} {enc:TypeId × Value→H} {W:World} {fuel:Nat} {a:Option Addr} {len cap:Nat} {y:DataW H × List MemPlace}
  (hf:DataW.trod enc Tryz.prog W 0 (fun _=>true) true fuel 35 [.slice a len cap]=some y) (hs:Sized 35 y.1):len≤8796093022208:=by
 rcases DataW.trod_slice Tryz.underlying35 hf with ⟨hz,_⟩ | ⟨b,n,c,elems,rest,n2,_,hz,hy,_,_,_,hel,_,_,_⟩
 ·simp only [List.cons.injEq,and_true,Value.slice.injEq] at hz
  omega
 ·simp only [List.cons.injEq,and_true,Value.slice.injEq] at hz
  obtain ⟨_,rfl,_⟩:=hz
  subst hy
  have:=hs.len Tryz.underlying35
  rw [hel,show Tryz.prog.bytesOf 9=16 by kernel_rfl] at this
  have e:reachBytes=140737488351232:=by decide
  omega
end Go.Proofs.YtgakcdcfblgagaaGreatDoor.Came
