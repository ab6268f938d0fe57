/-
  What the theorem of the last text needs of these: IdRefGood, IdRefCmp, RgMath, SvSame. Conditions: as each theorem states.
-/
import Derived.Test.YtgfbflnhjpbceaaGreatDoorSetB1
import Derived.Test.YtgfbflnhjpbceaaGreatDoorSetB2
import Derived.Test.YtgfbflnhjpbceaaGreatDoorSetB3
import Derived.Test.YtgfbflnhjpbceaaGreatDoorSetB4
import Derived.StillTailTactics
import Derived.Deep.CutBlock
import Derived.Deep.DeepCutAuto
import Derived.Deep.RegionHeld3
set_option maxRecDepth 100000
set_option maxHeartbeats 25600000
namespace Go.Proofs.YtgfbflnhjpbceaaGreatDoor.Ident
open Go.RowKit Num

theorem lead_no {x:List UInt8} {j:Nat} (hj:j<x.length) (h:isId (x.getD j 0)=false):lead x≠x.length:=by
 intro e
 have:=lead_full.1 e (x.getD j 0) (by simp [List.getD,List.getElem?_eq_getElem hj])
 rw [h] at this; cases this
theorem lead_yes {x:List UInt8} (h:∀ j,j<x.length→isId (x.getD j 0)=true):lead x=x.length :=
 lead_stop x x.length (Nat.le_refl _) h (.inl rfl)
theorem ref_good_all (A:Option Addr) (n c:Nat) (xs:List (List UInt8)) (pre:Bool) (w:World) (hr:SRow w A n xs) (hn:n≤maxLen) (hs:∀ x ∈ xs,x.length≤maxLen) :
  Calls Tryz.prog 57 #[.slice A n c,.bool pre] w fun e w'=>e=.returned (.bool (goodFrom pre xs 0))∧w=w':=by
 have HR:=Lib.hid hr
 have HL:=Lib.hid hr.1
 have HS:=Lib.hid hs
 have HM:=Lib.hid hn
 unfold maxLen at hn
 clear hr hs
 go_enter Tryz.func57,Tryz.ntmps57
 go_wp2
 go_loop [5] (fun i=>∃ k:Nat,k≤n∧i=.int .i64 k∧Hid (goodFrom pre (xs.drop k) k=goodFrom pre xs 0)) (fun i=>n - (intOf i).toNat)
 case atStart=>exact ⟨0,Nat.zero_le _,rfl,rfl⟩
 case round =>
  obtain ⟨k,hk,rfl,HG⟩:=hrel
  by_cases hlt:k<n
  ·obtain ⟨b,o,rfl,hb,hcell⟩:=HR.out.2 (by omega)
   have hx:=hcell k hlt
   clear hcell
   have HKL:Hid (k<xs.length):=by unfold Hid; rw [HL.out]; exact hlt
   have hlx:(xs.getD k []).length≤maxLen:=HS.out _ (by have h:=HKL.out; simp [List.getD,List.getElem?_eq_getElem h])
   have HST:=Lib.hid (fun h1 h2=>goodFrom_step (pre:=pre) HKL.out h1 h2)
   have HSP:=Lib.hid (fun h=>goodFrom_stop (pre:=pre) HKL.out h)
   generalize xs.getD k []=s at hx hlx HST HSP
   go_wp2_with fail
   refine (wrong_all (mk s) k pre _ (by rw [mk_size]; exact hlx) (by unfold maxLen; omega)).mono ?_
   rw [mk_list]
   rintro e w' ⟨rfl,rfl⟩
   have HFP:Hid (fault s k pre=0→s.length≤255):=fun h=>(fault_pos h).2.1
   generalize fault s k pre=f at HST HSP HFP
   by_cases hf0:f=0
   ·subst hf0
    have HST2:=Lib.hid (HST.out rfl)
    clear HST
    have hz:(mk s).size≤300:=Nat.le_trans (HFP.out rfl) (by omega)
    clear hlx HFP
    go_wp2
    go_loop [6] (fun j=>∃ m:Nat,m≤(mk s).size∧j=.int .i64 m∧Hid (∀ j,j<m→isId (s.getD j 0)=true)) (fun j=>(mk s).size - (intOf j).toNat)
    case atStart=>exact ⟨0,Nat.zero_le _,rfl,fun j hj=>by omega⟩
    case round =>
     obtain ⟨m,hm,rfl,HD⟩:=hrel
     by_cases hml:m<(mk s).size
     ·have HX:=Lib.hid (at_text (mk s) m hml)
      have hbd:=byteAt_bd s m
      have HI:Hid (isId (s.getD m 0)=idB (byteAt s m)):=(idB_at _).symm
      rw [mk_list] at HX
      rw [← HX.out] at hbd HI
      obtain ⟨hx0,hx1⟩:=hbd
      go_wp2_with fail
      refine (ref_byte_any _ _ hx0 hx1).mono ?_
      rintro e w' ⟨rfl,rfl⟩
      cases h1:idB ((mk s)[m].toNat:Int)
      ·have HF:Hid (goodFrom pre xs 0=false):=by
        unfold Hid
        rw [← HG.out]
        exact HSP.out (.inr (lead_no hml (by rw [HI.out]; exact h1)))
       have H1:=Lib.hid h1; clear h1
       go_wp2
       go_ret
       exact ⟨by rw [HF.out]; rfl,rfl⟩
      ·have HN:Hid (∀ j,j<m+1→isId (s.getD j 0)=true):=fun j hj=>by
        rcases Nat.lt_or_ge j m with hj1 | hj1
        ·exact HD.out j hj1
        ·obtain rfl:j=m:=by omega
         rw [HI.out]; exact h1
       have H1:=Lib.hid h1; clear h1
       go_wp2
       exact ⟨⟨m+1,by omega,by go_num,HN.out⟩,by simp [intOf]; omega⟩
     ·have HF:Hid (goodFrom pre (xs.drop (k+1)) (k+1)=goodFrom pre xs 0):=by
       unfold Hid
       rw [← HG.out,← HST2.out (lead_yes (fun j hj=>HD.out j (by have:(mk s).size=s.length:=rfl; omega)))]
      go_wp2
      exact ⟨⟨k+1,by omega,by go_num,HF.out⟩,by simp [intOf]; omega⟩
   ·have HF:Hid (goodFrom pre xs 0=false):=by
     unfold Hid
     rw [← HG.out]
     exact HSP.out (.inl hf0)
    go_wp2
    go_ret
    exact ⟨by rw [HF.out]; rfl,rfl⟩
  ·have HF:Hid (goodFrom pre xs 0=true):=by
    unfold Hid
    rw [← HG.out,List.drop_eq_nil_of_le (by rw [HL.out]; omega),goodFrom]
   go_wp2
   go_ret
   exact ⟨by rw [HF.out]; rfl,rfl⟩
end Go.Proofs.YtgfbflnhjpbceaaGreatDoor.Ident
namespace Go.Proofs.YtgfbflnhjpbceaaGreatDoor.Ident
open Go.RowKit Num

theorem compare_less:∀ (a b:List UInt8),a≠b→Lib.compareBytes a b=if Op.bytesLess a b=true then -1 else 1:=by
 intro a
 induction a with
 | nil =>
  intro b h
  cases b with
  | nil=>exact absurd rfl h
  | cons y b=>simp [Lib.compareBytes,Op.bytesLess]
 | cons x a ih =>
  intro b h
  cases b with
  | nil=>simp [Lib.compareBytes,Op.bytesLess]
  | cons y b =>
   unfold Lib.compareBytes Op.bytesLess
   rcases Nat.lt_trichotomy x.toNat y.toNat with g | g | g
   ·have g1:x<y:=UInt8.lt_iff_toNat_lt.2 g
    simp [g1]
   ·have e:x=y:=UInt8.toNat_inj.1 g
    subst e
    have:=ih b (fun e=>h (by rw [e]))
    simp [UInt8.lt_irrefl,this]
   ·have g1:y<x:=UInt8.lt_iff_toNat_lt.2 g
    have g2:¬ x<y:=fun k=>by have:=UInt8.lt_iff_toNat_lt.1 k; omega
    have g3:¬ x=y:=fun k=>by subst k; exact g2 g1
    simp [g1,g2,g3]
theorem numeric_all {a:List UInt8} (h:numeric a=true):AllDig a:=all_of_run ((numeric_iff a).1 h).2
theorem cmpId_both {a b:List UInt8} (ha:numeric a=true) (hb:numeric b=true):cmpId a b=if ordN (val a) (val b)=0 then ordN a.length b.length else ordN (val a) (val b):=by
 unfold cmpId; rw [if_pos ha,if_pos hb]
theorem cmpId_first {a b:List UInt8} (ha:numeric a=true) (hb:numeric b=false):cmpId a b=-1:=by
 unfold cmpId; rw [if_pos ha,if_neg (by rw [hb]; decide)]
theorem cmpId_second {a b:List UInt8} (ha:numeric a=false) (hb:numeric b=true):cmpId a b=1:=by
 unfold cmpId; rw [if_neg (by rw [ha]; decide),if_pos hb]
theorem cmpId_neither {a b:List UInt8} (ha:numeric a=false) (hb:numeric b=false):cmpId a b=Lib.compareBytes a b:=by
 unfold cmpId; rw [if_neg (by rw [ha]; decide),if_neg (by rw [hb]; decide)]

theorem refCmp_any (s t:ByteArray) (w:World) (hs:s.size≤1000) (ht:t.size≤1000) :
  Calls Tryz.prog 125 #[.string s,.string t] w fun e w'=>e=.returned (.int .i64 (cmpId s.data.toList t.data.toList))∧w=w':=by
 by_cases hst:s=t
 ·have HF:Hid (cmpId s.data.toList t.data.toList=0):=by rw [hst]; exact cmpId_self _
  subst hst
  have hq:(s.toList == s.toList)=true:=by simp
  go_enter Tryz.func125,Tryz.ntmps125
  go_wp2
  go_ret
  exact ⟨by rw [HF.out]; rfl,rfl⟩
 have HNE:Hid (s.data.toList≠t.data.toList):=fun h=>hst (by have:=congrArg mk h; exact this)
 have hq:(s.toList == t.toList)=false:=by
  rw [Lib.toList_data,Lib.toList_data,beq_eq_false_iff_ne]; exact HNE.out
 clear hst
 cases ha:numeric s.data.toList
 ·cases hb:numeric t.data.toList
  ·have HF:Hid (cmpId s.data.toList t.data.toList=if Op.bytesLess s.toList t.toList=true then -1 else 1):=by
    unfold Hid
    rw [cmpId_neither ha hb,compare_less _ _ HNE.out,Lib.toList_data,Lib.toList_data]
   have HA:=Lib.hid ha; clear ha
   have HC:=Lib.hid hb; clear hb
   cases hl:Op.bytesLess s.toList t.toList
   ·rw [hl,if_neg (by decide)] at HF
    go_enter Tryz.func125,Tryz.ntmps125
    go_wp2_with fail
    refine (ref_numeric_any s _ (by omega)).mono ?_
    rintro e w' ⟨rfl,rfl⟩
    rw [HA.out]
    go_wp2_with fail
    refine (ref_numeric_any t _ (by omega)).mono ?_
    rintro e w' ⟨rfl,rfl⟩
    rw [HC.out]
    go_wp2
    go_ret
    exact ⟨by rw [HF.out]; rfl,rfl⟩
   ·rw [hl,if_pos rfl] at HF
    go_enter Tryz.func125,Tryz.ntmps125
    go_wp2_with fail
    refine (ref_numeric_any s _ (by omega)).mono ?_
    rintro e w' ⟨rfl,rfl⟩
    rw [HA.out]
    go_wp2_with fail
    refine (ref_numeric_any t _ (by omega)).mono ?_
    rintro e w' ⟨rfl,rfl⟩
    rw [HC.out]
    go_wp2
    go_ret
    exact ⟨by rw [HF.out]; rfl,rfl⟩
  ·have HF:=Lib.hid (cmpId_second ha hb)
   have HA:=Lib.hid ha; clear ha
   have HC:=Lib.hid hb; clear hb
   go_enter Tryz.func125,Tryz.ntmps125
   go_wp2_with fail
   refine (ref_numeric_any s _ (by omega)).mono ?_
   rintro e w' ⟨rfl,rfl⟩
   rw [HA.out]
   go_wp2_with fail
   refine (ref_numeric_any t _ (by omega)).mono ?_
   rintro e w' ⟨rfl,rfl⟩
   rw [HC.out]
   go_wp2
   go_ret
   exact ⟨by rw [HF.out]; rfl,rfl⟩
 ·cases hb:numeric t.data.toList
  ·have HF:=Lib.hid (cmpId_first ha hb)
   have HA:=Lib.hid ha; clear ha
   have HC:=Lib.hid hb; clear hb
   go_enter Tryz.func125,Tryz.ntmps125
   go_wp2_with fail
   refine (ref_numeric_any s _ (by omega)).mono ?_
   rintro e w' ⟨rfl,rfl⟩
   rw [HA.out]
   go_wp2_with fail
   refine (ref_numeric_any t _ (by omega)).mono ?_
   rintro e w' ⟨rfl,rfl⟩
   rw [HC.out]
   go_wp2
   go_ret
   exact ⟨by rw [HF.out]; rfl,rfl⟩
  ·have HF:=Lib.hid (cmpId_both ha hb)
   have AA:=Lib.hid (numeric_all ha)
   have AB:=Lib.hid (numeric_all hb)
   have HA:=Lib.hid ha; clear ha
   have HC:=Lib.hid hb; clear hb
   go_enter Tryz.func125,Tryz.ntmps125
   go_wp2_with fail
   refine (ref_numeric_any s _ (by omega)).mono ?_
   rintro e w' ⟨rfl,rfl⟩
   rw [HA.out]
   go_wp2_with fail
   refine (ref_numeric_any t _ (by omega)).mono ?_
   rintro e w' ⟨rfl,rfl⟩
   rw [HC.out]
   have HVI:Hid (val s.data.toList=val t.data.toList→s.size≠t.size):=fun h1 h2=>HNE.out (val_inj _ _ AA.out AB.out (by rw [← Lib.size_eq,← Lib.size_eq]; exact h2) h1)
   have HL1:=Lib.hid (Lib.size_eq s)
   have HL2:=Lib.hid (Lib.size_eq t)
   have ZA:Hid (Zeros s.data.toList s):=⟨0,rfl⟩
   have ZB:Hid (Zeros t.data.toList t):=⟨0,rfl⟩
   obtain ⟨l,hl⟩:∃ l,s.data.toList=l:=⟨_,rfl⟩
   obtain ⟨r,hr⟩:∃ r,t.data.toList=r:=⟨_,rfl⟩
   have HG:Hid (cmpId s.data.toList t.data.toList=if ordN (val l) (val r)=0 then ordN s.size t.size else ordN (val l) (val r)):=by have:=HF.out; rw [← HL1.out,← HL2.out,hl,hr] at this; rw [hl,hr]; exact this
   rw [hl] at AA ZA HVI
   rw [hr] at AB ZB HVI
   clear HF HA HC hl hr HL1 HL2 HNE
   go_wp2
   go_loop [8] (fun v=>∃ s':ByteArray,v=.string s'∧Hid (Zeros l s')∧s'.size≤1000) (fun v=>t.size - strSize v)
   case atStart=>exact ⟨s,rfl,ZA,hs⟩
   case round =>
    obtain ⟨s',rfl,ZS,hs'⟩:=hrel
    by_cases hlt:s'.size<t.size
    ·go_wp2
     go_round
     case rel=>exact ⟨_,rfl,zero_ahead ZS.out,by rw [zero_size]; omega⟩
     case measure=>simp only [strSize]; rw [zero_size]; omega
    ·go_wp2
     go_loop [9] (fun v=>∃ t':ByteArray,v=.string t'∧Hid (Zeros r t')∧t'.size≤s'.size) (fun v=>s'.size - strSize v)
     case atStart=>exact ⟨t,rfl,ZB,by omega⟩
     case round =>
      obtain ⟨t',rfl,ZT,ht'⟩:=hrel
      by_cases hlt2:t'.size<s'.size
      ·go_wp2
       go_round
       case rel=>exact ⟨_,rfl,zero_ahead ZT.out,by rw [zero_size]; omega⟩
       case measure=>simp only [strSize]; rw [zero_size]; omega
      ·have hsz:s'.size=t'.size:=by omega
       have h1:=zeros_less AA.out AB.out ZS.out ZT.out hsz
       have h2:=zeros_eq AA.out AB.out ZS.out ZT.out hsz
       clear hsz
       rcases Nat.lt_trichotomy (val l) (val r) with h | h | h
       ·have hb1:Op.bytesLess s'.toList t'.toList=true:=h1.2 h
        have HO:Hid (cmpId s.data.toList t.data.toList=-1):=by have:=HG.out; rw [ordN_lt h,if_neg (by decide)] at this; exact this
        clear h h1 h2
        go_wp2
        go_ret
        exact ⟨by rw [HO.out]; rfl,rfl⟩
       ·have hb1:Op.bytesLess s'.toList t'.toList=false:=by rw [← Bool.not_eq_true,h1]; omega
        have hb2:(s'.toList == t'.toList)=true:=h2.2 h
        have hne:=HVI.out h
        have HO:Hid (cmpId s.data.toList t.data.toList=ordN s.size t.size):=by have:=HG.out; rw [ordN_eq h,if_pos rfl] at this; exact this
        clear h h1 h2
        by_cases hlen:s.size<t.size
        ·have HO2:=Lib.hid (HO.out.trans (ordN_lt hlen))
         clear hne
         go_wp2
         go_ret
         exact ⟨by rw [HO2.out]; rfl,rfl⟩
        ·have HO2:=Lib.hid (HO.out.trans (ordN_gt (by omega)))
         clear hne
         go_wp2
         go_ret
         exact ⟨by rw [HO2.out]; rfl,rfl⟩
       ·have hb1:Op.bytesLess s'.toList t'.toList=false:=by rw [← Bool.not_eq_true,h1]; omega
        have hb2:(s'.toList == t'.toList)=false:=by rw [← Bool.not_eq_true,h2]; omega
        have HO:Hid (cmpId s.data.toList t.data.toList=1):=by have:=HG.out; rw [ordN_gt h,if_neg (by decide)] at this; exact this
        clear h h1 h2
        go_wp2
        go_ret
        exact ⟨by rw [HO.out]; rfl,rfl⟩

theorem drop_rows (xs:List (List UInt8)) (k:Nat) (h:k<xs.length):xs.drop k=xs.getD k [] :: xs.drop (k+1):=by
 rw [List.drop_eq_getElem_cons h]; simp [List.getD,List.getElem?_eq_getElem h]
theorem text_mem (xs:List (List UInt8)) (k:Nat) (h:k<xs.length):xs.getD k [] ∈ xs:=by simp [List.getD,List.getElem?_eq_getElem h]
theorem refRows_end {xs ys:List (List UInt8)} {k:Nat} (h:¬ (k<xs.length∧k<ys.length)) (h1:k≤xs.length) (h2:k≤ys.length):cmpRows (xs.drop k) (ys.drop k)=ordN xs.length ys.length:=by
 have e:cmpRows (xs.drop k) (ys.drop k)=ordN (xs.drop k).length (ys.drop k).length:=by
  rcases Nat.lt_or_ge k xs.length with g | g
  ·rw [show ys.drop k=[] from List.drop_eq_nil_of_le (by omega),cmpRows_nil']; rfl
  ·rw [show xs.drop k=[] from List.drop_eq_nil_of_le g,cmpRows_nil]; rfl
 rw [e,List.length_drop,List.length_drop]
 rcases Nat.lt_trichotomy xs.length ys.length with g | g | g
 ·rw [ordN_lt g,ordN_lt (by omega)]
 ·rw [ordN_eq g,ordN_eq (by omega)]
 ·rw [ordN_gt g,ordN_gt (by omega)]

theorem refRows_any (A:Option Addr) (a ca:Nat) (xs:List (List UInt8)) (B:Option Addr) (b cb:Nat) (ys:List (List UInt8)) (w:World) (hA:SRow w A a xs) (hB:SRow w B b ys) (ha:a≤maxLen) (hb:b≤maxLen) (hx:∀ x ∈ xs,x.length≤1000) (hy:∀ y ∈ ys,y.length≤1000) :
  Calls Tryz.prog 103 #[.slice A a ca,.slice B b cb] w fun e w'=>e=.returned (.int .i64 (cmpRows xs ys))∧Below w.heap.size w w':=by
 unfold maxLen at ha hb
 have HA:=Lib.hid hA
 have HB:=Lib.hid hB
 have HX:=Lib.hid hx
 have HY:=Lib.hid hy
 have HLA:=Lib.hid hA.1
 have HLB:=Lib.hid hB.1
 clear hA hB hx hy
 go_enter Tryz.func103,Tryz.ntmps103
 go_wp2
 go_loopw [5] (fun i W=>∃ k:Nat,k≤a∧k≤b∧i=.int .i64 k∧Hid (cmpRows (xs.drop k) (ys.drop k)=cmpRows xs ys)∧Hid (Below w.heap.size w W)) (fun i _=>a - (intOf i).toNat)
 case atStart=>exact ⟨0,Nat.zero_le _,Nat.zero_le _,rfl,rfl,Below.refl _ _⟩
 case round =>
  obtain ⟨k,hk1,hk2,rfl,HG,HW⟩:=hrel
  by_cases hka:k<a
  ·by_cases hkb:k<b
   ·obtain ⟨g1,o1,rfl,hg1,hc1⟩:=(HA.out.kept HW.out).2 (by omega)
    obtain ⟨g2,o2,rfl,hg2,hc2⟩:=(HB.out.kept HW.out).2 (by omega)
    have hx1:=hc1 k hka
    have hx2:=hc2 k hkb
    clear hc1 hc2
    have HZ1:=Lib.hid (HX.out _ (text_mem xs k (by rw [HLA.out]; exact hka)))
    have HZ2:=Lib.hid (HY.out _ (text_mem ys k (by rw [HLB.out]; exact hkb)))
    have HD:Hid (cmpRows xs ys=if cmpId (xs.getD k []) (ys.getD k [])=0 then cmpRows (xs.drop (k+1)) (ys.drop (k+1)) else cmpId (xs.getD k []) (ys.getD k [])):=by
     unfold Hid
     rw [← HG.out,drop_rows xs k (by rw [HLA.out]; exact hka),drop_rows ys k (by rw [HLB.out]; exact hkb),cmpRows]
    generalize xs.getD k []=s at hx1 HZ1 HD
    generalize ys.getD k []=t at hx2 HZ2 HD
    go_wp2
    go_still_tail 8,(by kernel_rfl)
    change wpList _ _ _ _ _ wr.drew
    have HW2:=Lib.hid HW.out.drew
    generalize wr.drew=w2 at HW2
    clear hx1 hx2
    go_wp2_with fail
    refine (refCmp_any (mk s) (mk t) _ HZ1.out HZ2.out).mono ?_
    rintro e w' ⟨rfl,rfl⟩
    rw [mk_list,mk_list]
    generalize cmpId s t=c at HD ⊢
    by_cases hc:c=0
    ·have HD2:Hid (cmpRows (xs.drop (k+1)) (ys.drop (k+1))=cmpRows xs ys):=by have:=HD.out; rw [if_pos hc] at this; exact this.symm
     subst hc
     clear HD
     go_wp2
     exact ⟨⟨k+1,by omega,by omega,by go_num,HD2.out,HW2.out⟩,by simp [intOf]; omega⟩
    ·have HD2:Hid (cmpRows xs ys=c):=by have:=HD.out; rw [if_neg hc] at this; exact this
     have hn:(c == 0)=false:=by simp [hc]
     have hn2:(c != 0)=true:=by simp [hc]
     clear HD hc
     go_wp2
     go_ret
     exact ⟨by rw [HD2.out]; rfl,HW2.out⟩
   ·have HE:Hid (cmpRows xs ys=ordN a b):=by unfold Hid; rw [← HG.out,refRows_end (by rw [HLA.out,HLB.out]; omega) (by rw [HLA.out]; omega) (by rw [HLB.out]; omega),HLA.out,HLB.out]
    have HE2:=Lib.hid (HE.out.trans (ordN_gt (by omega)))
    go_wp2
    go_ret
    exact ⟨by rw [HE2.out]; rfl,HW.out⟩
  ·have HE:Hid (cmpRows xs ys=ordN a b):=by unfold Hid; rw [← HG.out,refRows_end (by rw [HLA.out,HLB.out]; omega) (by rw [HLA.out]; omega) (by rw [HLB.out]; omega),HLA.out,HLB.out]
   obtain rfl:k=a:=by omega
   rcases Nat.lt_or_ge k b with hlt | hge
   ·have HE2:=Lib.hid (HE.out.trans (ordN_lt hlt))
    go_wp2
    go_ret
    exact ⟨by rw [HE2.out]; rfl,HW.out⟩
   ·obtain rfl:k=b:=by omega
    have HE2:=Lib.hid (HE.out.trans (ordN_eq rfl))
    go_wp2
    go_ret
    exact ⟨by rw [HE2.out]; rfl,HW.out⟩
end Go.Proofs.YtgfbflnhjpbceaaGreatDoor.Ident
namespace Go.Proofs.YtgfbflnhjpbceaaGreatDoor.Range
open Num Ident Semver

inductive Rng where
 | mk (kind:Int) (v:Ver) (l:List Rng)
def Rng.kind:Rng→Int
 | .mk k _ _=>k
def Rng.ver:Rng→Ver
 | .mk _ v _=>v
def Rng.subs:Rng→List Rng
 | .mk _ _ l=>l
def noRng:Rng:=.mk 0 noVer []
instance:Inhabited Rng:=⟨noRng⟩

def blankB (b:UInt8):Bool:=b == 32 || b == 9
def blanks:List UInt8→List UInt8
 | []=>[]
 | b :: s=>if blankB b then blanks s else b :: s
def stands (t s:List UInt8):Bool:=t.isPrefixOf s
def oneOf (some s:List UInt8):Bool:=match s with
 | []=>false
 | b :: _=>decide (b ∈ some)
def lackN (s:List UInt8):Nat:=if s=[] then 5 else 3
def digits:List UInt8:=[48,49,50,51,52,53,54,55,56,57]
def starts:List UInt8:=[40,33,42,62,60,61,94,126,48,49,50,51,52,53,54,55,56,57]
def ops:List (List UInt8):=[[62,61],[62],[60,61],[60],[61],[33,61],[94],[126]]
def opFrom (s:List UInt8):List (List UInt8)→Int→Int × List UInt8
 | [],_=>(5,[])
 | t :: r,k=>if stands t s then (k,t) else opFrom s r (k+1)
def opOf (s:List UInt8):Int × List UInt8:=opFrom s ops 1
abbrev Out:=Nat × List UInt8 × Rng
def verAt (kind:Int) (s:List UInt8):Out :=
 if oneOf digits s=true then
  if (vparse s 0).1≠0 then ((vparse s 0).1,s.drop (vparse s 0).2.1,noRng) else (0,blanks (s.drop (vparse s 0).2.1),.mk kind (vparse s 0).2.2 [])
 else (lackN s,s,noRng)
def whole (kind:Int) (acc:List Rng) (r:Rng):Rng:=if acc=[] then r else .mk kind noVer (acc ++ [r])
def sev (pf:List UInt8→Out) (ff:List UInt8→Option (List UInt8)) (kind:Int):Nat→List Rng→List UInt8→Out
 | 0,_,s=>(99,s,noRng)
 | n+1,acc,s=>if (pf s).1≠0 then ((pf s).1,(pf s).2.1,noRng) else
  match ff (pf s).2.1 with
  | some s'=>sev pf ff kind n (acc ++ [(pf s).2.2]) s'
  | none=>(0,(pf s).2.1,whole kind acc (pf s).2.2)
def furE (s:List UInt8):Option (List UInt8):=if stands [124,124] s=true then some (blanks (s.drop 2)) else none
def furO (s:List UInt8):Option (List UInt8):=if stands [44] s=true then some (blanks (s.drop 1)) else if oneOf starts s=true then some s else none
def everyF (pf:List UInt8→Out) (s:List UInt8):Out:=sev pf furO 9 (s.length+1) [] s
def exprF (pf:List UInt8→Out) (s:List UInt8):Out:=sev (everyF pf) furE 10 (s.length+1) [] s
def shutF (t:Out):Out:=if t.1≠0 then (t.1,t.2.1,noRng) else if stands [41] t.2.1=true then (0,blanks (t.2.1.drop 1),t.2.2) else (lackN t.2.1,t.2.1,noRng)
def notF (t:Out):Out:=if t.1≠0 then (t.1,t.2.1,noRng) else (0,t.2.1,.mk 11 noVer [t.2.2])
def oneF (sub:Option (List UInt8→Out)) (s:List UInt8):Out :=
 if stands [42] s=true then (0,blanks (s.drop 1),noRng)
 else if stands [40] s=true then (match sub with
  | none=>(8,s,noRng)
  | some f=>shutF (exprF f (blanks (s.drop 1))))
 else if (opOf s).2=[]∧stands [33] s=true then (match sub with
  | none=>(8,s,noRng)
  | some f=>notF (f (blanks (s.drop 1))))
 else verAt (opOf s).1 (blanks (s.drop (opOf s).2.length))
def pone:Nat→List UInt8→Out
 | 0=>oneF none
 | k+1=>oneF (some (pone k))
abbrev POut:=Nat × Nat × Rng
def pparse (l:List UInt8) (p:Int):POut :=
 if p<0∨(l.length:Int)<p then (1,0,noRng) else
  ((exprF (pone 64) (blanks (l.drop p.toNat))).1,l.length - (exprF (pone 64) (blanks (l.drop p.toNat))).2.1.length,(exprF (pone 64) (blanks (l.drop p.toNat))).2.2)
def pread (l:List UInt8):POut :=
 if (pparse l 0).1≠0 then ((pparse l 0).1,(pparse l 0).2.1,noRng) else if (pparse l 0).2.1≠l.length then (13,(pparse l 0).2.1,noRng) else (0,0,(pparse l 0).2.2)

def bracketed (outer kind:Int):Bool:=decide (kind=10∨kind=9∧outer≠10)
def ofVersion (kind:Int):Bool:=decide (1≤kind∧kind≤8)
def opens (outer kind:Int):Nat:=(if outer=11 then 1 else 0)+(if bracketed outer kind=true then 1 else 0)
def fits (kind:Int) (v:Ver) (n:Nat):Bool :=
 if ofVersion kind=true then goodV v && decide (n=0)
 else if sameV v noVer=false then false
 else if kind=0 then decide (n=0) else if kind=9∨kind=10 then decide (2≤n) else if kind=11 then decide (n=1) else false
mutual
def goodR:Rng→Nat→Bool
 | .mk kind v l,deep=>decide (deep≤64) && fits kind v l.length && goodL kind l deep
def goodL (outer:Int):List Rng→Nat→Bool
 | [],_=>true
 | r :: rs,deep=>goodR r (deep+opens outer r.kind) && goodL outer rs deep
end
def markR (kind:Int) (v:Ver):List UInt8 :=
 if kind=0 then [42] else if kind=9∨kind=10 then [] else if kind=11 then [33] else if ofVersion kind=true then ops.getD (kind - 1).toNat [] ++ vtext v else vtext v
def aheadR (outer kind:Int) (told:Nat):List UInt8 :=
 if outer=11∧kind=5 then [32] else if told=0 then [] else if outer=10 then [32,124,124,32] else [44,32]
def openR (outer kind:Int):List UInt8:=if bracketed outer kind=true then [40] else []
def shutR (outer kind:Int):List UInt8:=if bracketed outer kind=true then [41] else []
def most (kind:Int) (n:Nat):Nat:=if kind=9∨kind=10 then n else if kind=11 then min 1 n else 0
mutual
def textR:Rng→List UInt8
 | .mk kind v l=>markR kind v ++ textL kind (most kind l.length) l 0
def textL (outer:Int) (m:Nat):List Rng→Nat→List UInt8
 | [],_=>[]
 | r :: rs,i=>if i<m then aheadR outer r.kind i ++ (openR outer r.kind ++ textR r ++ shutR outer r.kind) ++ textL outer m rs (i+1) else []
end
theorem goodR_eq (kind:Int) (v:Ver) (l:List Rng) (deep:Nat):goodR (.mk kind v l) deep=(decide (deep≤64) && fits kind v l.length && goodL kind l deep):=rfl
theorem goodL_cons (outer:Int) (r:Rng) (rs:List Rng) (deep:Nat):goodL outer (r :: rs) deep=(goodR r (deep+opens outer r.kind) && goodL outer rs deep):=rfl
theorem textR_eq (kind:Int) (v:Ver) (l:List Rng):textR (.mk kind v l)=markR kind v ++ textL kind (most kind l.length) l 0:=rfl
theorem textL_cons (outer:Int) (m:Nat) (r:Rng) (rs:List Rng) (i:Nat):textL outer m (r :: rs) i=if i<m then aheadR outer r.kind i ++ (openR outer r.kind ++ textR r ++ shutR outer r.kind) ++ textL outer m rs (i+1) else []:=rfl
theorem pone_zero (s:List UInt8):pone 0 s=oneF none s:=rfl
theorem pone_succ (k:Nat) (s:List UInt8):pone (k+1) s=oneF (some (pone k)) s:=rfl
end Go.Proofs.YtgfbflnhjpbceaaGreatDoor.Range
namespace Go.Proofs.YtgfbflnhjpbceaaGreatDoor.Semver
open Go.RowKit Num Ident

theorem equal_any (A:Option Addr) (a ca:Nat) (xs:List (List UInt8)) (B:Option Addr) (b cb:Nat) (ys:List (List UInt8)) (w:World) (hA:SRow w A a xs) (hB:SRow w B b ys) (ha:a≤maxLen) (hb:b≤maxLen) :
  Calls Tryz.prog 92 #[.slice A a ca,.slice B b cb] w fun e w'=>e=.returned (.bool (sameB xs ys))∧Below w.heap.size w w':=by
 unfold maxLen at ha hb
 have HA:=Lib.hid hA
 have HB:=Lib.hid hB
 have HLA:=Lib.hid hA.1
 have HLB:=Lib.hid hB.1
 clear hA hB
 by_cases hab:a=b
 ·subst hab
  go_enter Tryz.func92,Tryz.ntmps92
  go_wp2
  go_loopw [13] (fun i W=>∃ k:Nat,k≤a∧i=.int .i64 k∧Hid (∀ j,j<k→xs.getD j []=ys.getD j [])∧Hid (Below w.heap.size w W)) (fun i _=>a - (intOf i).toNat)
  case atStart=>exact ⟨0,Nat.zero_le _,rfl,(fun j hj=>by omega),Below.refl _ _⟩
  case round =>
   obtain ⟨k,hk,rfl,HD,HW⟩:=hrel
   by_cases hlt:k<a
   ·obtain ⟨g1,o1,rfl,hg1,hc1⟩:=(HA.out.kept HW.out).2 (by omega)
    obtain ⟨g2,o2,rfl,hg2,hc2⟩:=(HB.out.kept HW.out).2 (by omega)
    have hx1:=hc1 k hlt
    have hx2:=hc2 k hlt
    clear hc1 hc2
    obtain ⟨s,hs⟩:∃ s,mk (xs.getD k [])=s:=⟨_,rfl⟩
    obtain ⟨t,ht⟩:∃ t,mk (ys.getD k [])=t:=⟨_,rfl⟩
    have HS:Hid (s=t→xs.getD k []=ys.getD k []):=fun h=>by rw [← hs,← ht] at h; have:=congrArg (fun z:ByteArray=>z.data.toList) h; exact this
    have HS2:Hid (s≠t→xs≠ys):=fun h h2=>h (by rw [← hs,← ht,h2])
    rw [hs] at hx1
    rw [ht] at hx2
    clear hs ht
    by_cases hst:s=t
    ·have HS3:=Lib.hid (HS.out hst)
     subst hst
     have hq:(s.toList == s.toList)=true:=by simp
     have hq2:(s.toList != s.toList)=false:=by simp
     go_wp2
     go_still (by kernel_rfl)
     have HW2:=Lib.hid HW.out.drew
     go_wp2
     refine ⟨⟨k+1,by omega,by go_num,(fun j hj=>?_),HW2.out⟩,by simp [intOf]; omega⟩
     rcases Nat.lt_or_ge j k with hj1 | hj1
     ·exact HD.out j hj1
     ·obtain rfl:j=k:=by omega
      exact HS3.out
    ·have HS3:=Lib.hid (HS2.out hst)
     have hq:(s.toList == t.toList)=false:=by
      rw [Lib.toList_data,Lib.toList_data,beq_eq_false_iff_ne]
      exact fun h=>hst (by have:=congrArg mk h; exact this)
     have hq2:(s.toList != t.toList)=true:=by rw [bne,hq]; rfl
     clear hst
     go_wp2
     go_still (by kernel_rfl)
     have HW2:=Lib.hid HW.out.drew
     go_wp2
     go_ret
     exact ⟨by rw [sameB_no HS3.out]; rfl,HW2.out⟩
   ·have HF:Hid (sameB xs ys=true):=(sameB_iff xs ys).2 (List.ext_getElem (by rw [HLA.out,HLB.out]) fun j h1 h2=>by
     have:=HD.out j (by rw [HLA.out] at h1; omega)
     simpa [List.getD,List.getElem?_eq_getElem h1,List.getElem?_eq_getElem h2] using this)
    go_wp2
    go_ret
    exact ⟨by rw [HF.out]; rfl,HW.out⟩
 ·have HF:Hid (sameB xs ys=false):=sameB_no fun h=>hab (by rw [← HLA.out,← HLB.out,h])
  have hq:((a:Int) == (b:Int))=false:=by simp; omega
  have hq2:((a:Int) != (b:Int))=true:=by simp; omega
  go_enter Tryz.func92,Tryz.ntmps92
  go_wp2
  go_ret
  exact ⟨by rw [HF.out]; rfl,Below.refl _ _⟩
theorem coreOf_any (a b c:Int) (x y:Value) (w:World) :
  Calls Tryz.prog 71 #[.agg #[.int .u64 a,.int .u64 b,.int .u64 c,x,y]] w fun e w'=>e=.returned (.agg #[.int .u64 a,.int .u64 b,.int .u64 c])∧Below w.heap.size w w':=by
 go_enter Tryz.func71,Tryz.ntmps71
 go_wp2
 exact bodyPost_ret (v:=.agg #[.int .u64 a,.int .u64 b,.int .u64 c]) (by simp [results,Tryz.results71,go_sem]) rfl ⟨rfl,((Below.refl _ _).alloc (Nat.le_refl _) _).alloc (by simp) _⟩
theorem same_parts (A1:Option Addr) (a1 c1:Nat) (xs1:List (List UInt8)) (A2:Option Addr) (a2 c2:Nat) (xs2:List (List UInt8)) (B1:Option Addr) (b1 d1:Nat) (ys1:List (List UInt8)) (B2:Option Addr) (b2 d2:Nat) (ys2:List (List UInt8)) (n0 n1 n2 m0 m1 m2:Nat) (w:World)
  (r1:SRow w A1 a1 xs1) (r2:SRow w A2 a2 xs2) (q1:SRow w B1 b1 ys1) (q2:SRow w B2 b2 ys2) (ha1:a1≤maxLen) (ha2:a2≤maxLen) (hb1:b1≤maxLen) (hb2:b2≤maxLen) :
  Calls Tryz.prog 56 #[.agg #[.int .u64 n0,.int .u64 n1,.int .u64 n2,.slice A1 a1 c1,.slice A2 a2 c2],.agg #[.int .u64 m0,.int .u64 m1,.int .u64 m2,.slice B1 b1 d1,.slice B2 b2 d2]] w fun e w'=>e=.returned (.bool (sameV ⟨n0,n1,n2,xs1,xs2⟩ ⟨m0,m1,m2,ys1,ys2⟩))∧Below w.heap.size w w':=by
 have R1:=Lib.hid r1
 have R2:=Lib.hid r2
 have Q1:=Lib.hid q1
 have Q2:=Lib.hid q2
 have HA1:=Lib.hid ha1
 have HA2:=Lib.hid ha2
 have HB1:=Lib.hid hb1
 have HB2s:=Lib.hid hb2
 clear r1 r2 q1 q2 ha1 ha2 hb1 hb2
 have HB0:Hid (Below w.heap.size w ((w.alloc (.cells #[.int .u64 n0,.int .u64 n1,.int .u64 n2,.slice A1 a1 c1,.slice A2 a2 c2] 25)).alloc (.cells #[.int .u64 m0,.int .u64 m1,.int .u64 m2,.slice B1 b1 d1,.slice B2 b2 d2] 25))):=((Below.refl _ _).alloc (Nat.le_refl _) _).alloc (by simp) _
 have HP1:Hid (At5 ((w.alloc (.cells #[.int .u64 n0,.int .u64 n1,.int .u64 n2,.slice A1 a1 c1,.slice A2 a2 c2] 25)).alloc (.cells #[.int .u64 m0,.int .u64 m1,.int .u64 m2,.slice B1 b1 d1,.slice B2 b2 d2] 25)) w.heap.size (.int .u64 n0) (.int .u64 n1) (.int .u64 n2) (.slice A1 a1 c1) (.slice A2 a2 c2)):=(At5.new w 25 _ _ _ _ _).kept ((Below.refl _ _).alloc (Nat.le_refl _) _) (by simp)
 have HP2:Hid (At5 ((w.alloc (.cells #[.int .u64 n0,.int .u64 n1,.int .u64 n2,.slice A1 a1 c1,.slice A2 a2 c2] 25)).alloc (.cells #[.int .u64 m0,.int .u64 m1,.int .u64 m2,.slice B1 b1 d1,.slice B2 b2 d2] 25)) (w.heap.size+1) (.int .u64 m0) (.int .u64 m1) (.int .u64 m2) (.slice B1 b1 d1) (.slice B2 b2 d2)):=by
  have:=At5.new (w.alloc (.cells #[.int .u64 n0,.int .u64 n1,.int .u64 n2,.slice A1 a1 c1,.slice A2 a2 c2] 25)) 25 (.int .u64 m0) (.int .u64 m1) (.int .u64 m2) (.slice B1 b1 d1) (.slice B2 b2 d2)
  rw [size_alloc] at this; exact this
 have HD:=Lib.hid ((Below.refl ((w.alloc (.cells #[.int .u64 n0,.int .u64 n1,.int .u64 n2,.slice A1 a1 c1,.slice A2 a2 c2] 25)).alloc (.cells #[.int .u64 m0,.int .u64 m1,.int .u64 m2,.slice B1 b1 d1,.slice B2 b2 d2] 25)).heap.size ((w.alloc (.cells #[.int .u64 n0,.int .u64 n1,.int .u64 n2,.slice A1 a1 c1,.slice A2 a2 c2] 25)).alloc (.cells #[.int .u64 m0,.int .u64 m1,.int .u64 m2,.slice B1 b1 d1,.slice B2 b2 d2] 25))).drew)
 have HDw:=Lib.hid (HD.out.mono (B':=w.heap.size) (by simp; omega))
 by_cases hn:n0=m0∧n1=m1∧n2=m2
 ·obtain ⟨rfl,rfl,rfl⟩:=hn
  have kq:=fun W=>run_eq3 n0 n1 n2 n0 n1 n2 W
  rw [show ((((n0:Int) == (n0:Int)) && (((n1:Int) == (n1:Int)) && ((n2:Int) == (n2:Int)))))=true by simp] at kq
  have HF:Hid (sameV ⟨n0,n1,n2,xs1,xs2⟩ ⟨n0,n1,n2,ys1,ys2⟩=(sameB xs1 ys1 && sameB xs2 ys2)):=by unfold Hid sameV; simp
  go_enter Tryz.func56,Tryz.ntmps56
  go_upto_region 1 with (fail)
  refine wp_region_held_drew (S:=fun w'=>(w'.cell? ⟨w.heap.size,0,none⟩=some (.int .u64 n0)∧w'.cell? ⟨w.heap.size,1,none⟩=some (.int .u64 n1)∧w'.cell? ⟨w.heap.size,2,none⟩=some (.int .u64 n2)∧w'.cell? ⟨w.heap.size,3,none⟩=some (.slice A1 a1 c1)∧w'.cell? ⟨w.heap.size,4,none⟩=some (.slice A2 a2 c2))∧(w'.cell? ⟨(w.heap.size+1),0,none⟩=some (.int .u64 n0)∧w'.cell? ⟨(w.heap.size+1),1,none⟩=some (.int .u64 n1)∧w'.cell? ⟨(w.heap.size+1),2,none⟩=some (.int .u64 n2)∧w'.cell? ⟨(w.heap.size+1),3,none⟩=some (.slice B1 b1 d1)∧w'.cell? ⟨(w.heap.size+1),4,none⟩=some (.slice B2 b2 d2))) (by kernel_rfl) ⟨HP1.out.2.2,HP2.out.2.2⟩ (fun hHeld=>?_)
  refine tk 0 rfl (.agg #[.int .u64 n0,.int .u64 n1,.int .u64 n2,.slice A1 a1 c1,.slice A2 a2 c2]) ?_
  refine tk 2 rfl (.agg #[.int .u64 n0,.int .u64 n1,.int .u64 n2,.slice B1 b1 d1,.slice B2 b2 d2]) ?_
  refine cl 1 rfl fun K hK=>?_
  go_simp
  refine (coreOf_any _ _ _ _ _ _).mono ?_
  rintro e w2 ⟨rfl,hb2⟩
  have HK1:=Lib.hid ((HP1.out.kept HD.out (by simp; omega)).kept hb2 (by simp; omega))
  have HK2:=Lib.hid ((HP2.out.kept HD.out (by simp)).kept hb2 (by simp))
  have HB2:=Lib.hid ((HB0.out.trans HDw.out).trans (hb2.mono (by simp; omega)))
  have hz2:w.heap.size+2≤w2.heap.size:=by have:=hb2.size; simpa using this
  clear hb2
  refine hK.out _ _ ⟨HK1.out.2.2,HK2.out.2.2⟩ (fun hHeld=>?_)
  clear hK K
  try simp only [Act.put,p1,p2,p3]
  refine cl 3 rfl fun K hK=>?_
  go_simp
  refine (coreOf_any _ _ _ _ _ _).mono ?_
  rintro e w3 ⟨rfl,hb3⟩
  have HM1:=Lib.hid (HK1.out.kept hb3 (by omega))
  have HM2:=Lib.hid (HK2.out.kept hb3 (by omega))
  have HB3:=Lib.hid (HB2.out.trans (hb3.mono (by omega)))
  have hz3:=hb3.size
  clear hb3
  refine hK.out _ _ ⟨HM1.out.2.2,HM2.out.2.2⟩ (fun hHeld=>?_)
  clear hK K
  try simp only [Act.put,p1,p2,p3]
  refine tk 4 rfl (.bool true) ?_
  refine tk 5 rfl (.bool true) ?_
  refine tk 6 rfl (.pointer (some ⟨w.heap.size,3,none⟩)) ?_
  refine tk 7 rfl (.slice A1 a1 c1) ?_
  refine tk 8 rfl (.pointer (some ⟨w.heap.size+1,3,none⟩)) ?_
  refine tk 9 rfl (.slice B1 b1 d1) ?_
  refine cl 10 rfl fun K hK=>?_
  go_simp
  refine (equal_any _ _ _ xs1 _ _ _ ys1 _ (R1.out.kept HB3.out) (Q1.out.kept HB3.out) HA1.out HB1.out).mono ?_
  rintro e w4 ⟨rfl,hb4⟩
  have HN1:=Lib.hid (HM1.out.kept hb4 (by omega))
  have HN2:=Lib.hid (HM2.out.kept hb4 (by omega))
  have HB4:=Lib.hid (HB3.out.trans (hb4.mono (by omega)))
  have hz4:=hb4.size
  clear hb4
  refine hK.out _ _ ⟨HN1.out.2.2,HN2.out.2.2⟩ (fun hHeld=>?_)
  clear hK K
  try simp only [Act.put,p1,p2,p3]
  generalize sameB xs1 ys1=s1 at HF ⊢
  cases s1
  ·refine tk 11 rfl (.bool false) ?_
   refine tk 12 rfl (.bool false) ?_
   refine sk 13 rfl ?_
   refine sk 14 rfl ?_
   refine sk 15 rfl ?_
   refine sk 16 rfl ?_
   refine sk 17 rfl ?_
   refine tk 18 rfl (.bool false) ?_
   refine tk 19 rfl (.bool false) ?_
   refine wpAnyH_done (by kernel_rfl) ?_ _
   go_wp2
   go_ret
   exact ⟨by rw [HF.out]; rfl,HB4.out⟩
  ·refine tk 11 rfl (.bool true) ?_
   refine tk 12 rfl (.bool true) ?_
   refine tk 13 rfl (.pointer (some ⟨w.heap.size,4,none⟩)) ?_
   refine tk 14 rfl (.slice A2 a2 c2) ?_
   refine tk 15 rfl (.pointer (some ⟨w.heap.size+1,4,none⟩)) ?_
   refine tk 16 rfl (.slice B2 b2 d2) ?_
   refine cl 17 rfl fun K hK=>?_
   go_simp
   refine (equal_any _ _ _ xs2 _ _ _ ys2 _ (R2.out.kept HB4.out) (Q2.out.kept HB4.out) HA2.out HB2s.out).mono ?_
   rintro e w5 ⟨rfl,hb5⟩
   have HO1:=Lib.hid (HN1.out.kept hb5 (by omega))
   have HO2:=Lib.hid (HN2.out.kept hb5 (by omega))
   have HB5:=Lib.hid (HB4.out.trans (hb5.mono (by omega)))
   clear hb5
   refine hK.out _ _ ⟨HO1.out.2.2,HO2.out.2.2⟩ (fun hHeld=>?_)
   clear hK K
   try simp only [Act.put,p1,p2,p3]
   refine tk 18 rfl (.bool (sameB xs2 ys2)) ?_
   refine tk 19 rfl (.bool (sameB xs2 ys2)) ?_
   refine wpAnyH_done (by kernel_rfl) ?_ _
   go_wp2
   go_ret
   exact ⟨by rw [HF.out]; rfl,HB5.out⟩
 ·have HF:Hid (sameV ⟨n0,n1,n2,xs1,xs2⟩ ⟨m0,m1,m2,ys1,ys2⟩=false):=by unfold Hid sameV; rw [decide_eq_false hn]; rfl
  have hq:(((n0:Int) == (m0:Int)) && (((n1:Int) == (m1:Int)) && ((n2:Int) == (m2:Int))))=false:=by
   rw [← Bool.not_eq_true]; simp only [Bool.and_eq_true,beq_iff_eq]; omega
  have kq:=fun W=>run_eq3 n0 n1 n2 m0 m1 m2 W
  rw [hq] at kq
  clear hn hq
  go_enter Tryz.func56,Tryz.ntmps56
  go_upto_region 1 with (fail)
  refine wp_region_held_drew (S:=fun w'=>(w'.cell? ⟨w.heap.size,0,none⟩=some (.int .u64 n0)∧w'.cell? ⟨w.heap.size,1,none⟩=some (.int .u64 n1)∧w'.cell? ⟨w.heap.size,2,none⟩=some (.int .u64 n2)∧w'.cell? ⟨w.heap.size,3,none⟩=some (.slice A1 a1 c1)∧w'.cell? ⟨w.heap.size,4,none⟩=some (.slice A2 a2 c2))∧(w'.cell? ⟨(w.heap.size+1),0,none⟩=some (.int .u64 m0)∧w'.cell? ⟨(w.heap.size+1),1,none⟩=some (.int .u64 m1)∧w'.cell? ⟨(w.heap.size+1),2,none⟩=some (.int .u64 m2)∧w'.cell? ⟨(w.heap.size+1),3,none⟩=some (.slice B1 b1 d1)∧w'.cell? ⟨(w.heap.size+1),4,none⟩=some (.slice B2 b2 d2))) (by kernel_rfl) ⟨HP1.out.2.2,HP2.out.2.2⟩ (fun hHeld=>?_)
  refine tk 0 rfl (.agg #[.int .u64 n0,.int .u64 n1,.int .u64 n2,.slice A1 a1 c1,.slice A2 a2 c2]) ?_
  refine tk 2 rfl (.agg #[.int .u64 m0,.int .u64 m1,.int .u64 m2,.slice B1 b1 d1,.slice B2 b2 d2]) ?_
  refine cl 1 rfl fun K hK=>?_
  go_simp
  refine (coreOf_any _ _ _ _ _ _).mono ?_
  rintro e w2 ⟨rfl,hb2⟩
  have HK1:=Lib.hid ((HP1.out.kept HD.out (by simp; omega)).kept hb2 (by simp; omega))
  have HK2:=Lib.hid ((HP2.out.kept HD.out (by simp)).kept hb2 (by simp))
  have HB2:=Lib.hid ((HB0.out.trans HDw.out).trans (hb2.mono (by simp; omega)))
  have hz2:w.heap.size+2≤w2.heap.size:=by have:=hb2.size; simpa using this
  clear hb2
  refine hK.out _ _ ⟨HK1.out.2.2,HK2.out.2.2⟩ (fun hHeld=>?_)
  clear hK K
  try simp only [Act.put,p1,p2,p3]
  refine cl 3 rfl fun K hK=>?_
  go_simp
  refine (coreOf_any _ _ _ _ _ _).mono ?_
  rintro e w3 ⟨rfl,hb3⟩
  have HM1:=Lib.hid (HK1.out.kept hb3 (by omega))
  have HM2:=Lib.hid (HK2.out.kept hb3 (by omega))
  have HB3:=Lib.hid (HB2.out.trans (hb3.mono (by omega)))
  have hz3:=hb3.size
  clear hb3
  refine hK.out _ _ ⟨HM1.out.2.2,HM2.out.2.2⟩ (fun hHeld=>?_)
  clear hK K
  try simp only [Act.put,p1,p2,p3]
  refine tk 4 rfl (.bool false) ?_
  refine tk 5 rfl (.bool false) ?_
  refine sk 6 rfl ?_
  refine sk 7 rfl ?_
  refine sk 8 rfl ?_
  refine sk 9 rfl ?_
  refine sk 10 rfl ?_
  refine tk 11 rfl (.bool false) ?_
  refine tk 12 rfl (.bool false) ?_
  refine sk 13 rfl ?_
  refine sk 14 rfl ?_
  refine sk 15 rfl ?_
  refine sk 16 rfl ?_
  refine sk 17 rfl ?_
  refine tk 18 rfl (.bool false) ?_
  refine tk 19 rfl (.bool false) ?_
  refine wpAnyH_done (by kernel_rfl) ?_ _
  go_wp2
  go_ret
  exact ⟨by rw [HF.out]; rfl,HB3.out⟩
end Go.Proofs.YtgfbflnhjpbceaaGreatDoor.Semver
