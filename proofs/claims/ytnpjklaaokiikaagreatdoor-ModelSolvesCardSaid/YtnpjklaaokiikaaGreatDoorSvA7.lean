/-
  What the theorem of the last text needs of these: IdRefGood, IdRefCmp, SpSweep. Conditions: as each theorem states.
-/
import Derived.Test.YtnpjklaaokiikaaGreatDoorSvA1
import Derived.Test.YtnpjklaaokiikaaGreatDoorSvA3
import Derived.Test.YtnpjklaaokiikaaGreatDoorSvA4
import Derived.Test.YtnpjklaaokiikaaGreatDoorSvA6
import Derived.StillTailTactics
set_option maxRecDepth 100000
set_option maxHeartbeats 25600000
namespace Go.Proofs.YtnpjklaaokiikaaGreatDoor.Ident
open Go.RowKit Num

theorem lead_no {x:List UInt8} {j:Nat} (hj:j<x.length) (h:isId (x.getD j 0)=false):lead x≠x.length:=by
 intro e
 have:=lead_full.1 e (x.getD j 0) (by simp [List.getD,List.getElem?_eq_getElem hj])
 rw [h] at this; cases this
theorem lead_yes {x:List UInt8} (h:∀ j,j<x.length→isId (x.getD j 0)=true):lead x=x.length :=
 lead_stop x x.length (Nat.le_refl _) h (.inl rfl)
theorem ref_good_all (A:Option Addr) (n c:Nat) (xs:List (List UInt8)) (pre:Bool) (w:World) (hr:SRow w A n xs) (hn:n≤maxLen) (hs:∀ x ∈ xs,x.length≤maxLen) :
  Calls Tryz.prog 134 #[.slice A n c,.bool pre] w fun e w'=>e=.returned (.bool (goodFrom pre xs 0))∧w=w':=by
 have HR:=Lib.hid hr
 have HL:=Lib.hid hr.1
 have HS:=Lib.hid hs
 have HM:=Lib.hid hn
 unfold maxLen at hn
 clear hr hs
 go_enter Tryz.func134,Tryz.ntmps134
 go_wp2
 go_loop [5] (fun i=>∃ k:Nat,k≤n∧i=.int .i64 k∧Hid (goodFrom pre (xs.drop k) k=goodFrom pre xs 0)) (fun i=>n - (intOf i).toNat)
 case atStart=>exact ⟨0,Nat.zero_le _,rfl,rfl⟩
 case round =>
  obtain ⟨k,hk,rfl,HG⟩:=hrel
  by_cases hlt:k<n
  ·obtain ⟨b,o,rfl,hb,hcell⟩:=HR.out.2 (by omega)
   have hx:=hcell k hlt
   clear hcell
   have HKL:Hid (k<xs.length):=by unfold Hid; rw [HL.out]; exact hlt
   have hlx:(xs.getD k []).length≤maxLen:=HS.out _ (by have h:=HKL.out; simp [List.getD,List.getElem?_eq_getElem h])
   have HST:=Lib.hid (fun h1 h2=>goodFrom_step (pre:=pre) HKL.out h1 h2)
   have HSP:=Lib.hid (fun h=>goodFrom_stop (pre:=pre) HKL.out h)
   generalize xs.getD k []=s at hx hlx HST HSP
   go_wp2_with fail
   refine (wrong_all (mk s) k pre _ (by rw [mk_size]; exact hlx) (by unfold maxLen; omega)).mono ?_
   rw [mk_list]
   rintro e w' ⟨rfl,rfl⟩
   have HFP:Hid (fault s k pre=0→s.length≤255):=fun h=>(fault_pos h).2.1
   generalize fault s k pre=f at HST HSP HFP
   by_cases hf0:f=0
   ·subst hf0
    have HST2:=Lib.hid (HST.out rfl)
    clear HST
    have hz:(mk s).size≤300:=Nat.le_trans (HFP.out rfl) (by omega)
    clear hlx HFP
    go_wp2
    go_loop [6] (fun j=>∃ m:Nat,m≤(mk s).size∧j=.int .i64 m∧Hid (∀ j,j<m→isId (s.getD j 0)=true)) (fun j=>(mk s).size - (intOf j).toNat)
    case atStart=>exact ⟨0,Nat.zero_le _,rfl,fun j hj=>by omega⟩
    case round =>
     obtain ⟨m,hm,rfl,HD⟩:=hrel
     by_cases hml:m<(mk s).size
     ·have HX:=Lib.hid (at_text (mk s) m hml)
      have hbd:=byteAt_bd s m
      have HI:Hid (isId (s.getD m 0)=idB (byteAt s m)):=(idB_at _).symm
      rw [mk_list] at HX
      rw [← HX.out] at hbd HI
      obtain ⟨hx0,hx1⟩:=hbd
      go_wp2_with fail
      refine (ref_byte_any _ _ hx0 hx1).mono ?_
      rintro e w' ⟨rfl,rfl⟩
      cases h1:idB ((mk s)[m].toNat:Int)
      ·have HF:Hid (goodFrom pre xs 0=false):=by
        unfold Hid
        rw [← HG.out]
        exact HSP.out (.inr (lead_no hml (by rw [HI.out]; exact h1)))
       have H1:=Lib.hid h1; clear h1
       go_wp2
       go_ret
       exact ⟨by rw [HF.out]; rfl,rfl⟩
      ·have HN:Hid (∀ j,j<m+1→isId (s.getD j 0)=true):=fun j hj=>by
        rcases Nat.lt_or_ge j m with hj1 | hj1
        ·exact HD.out j hj1
        ·obtain rfl:j=m:=by omega
         rw [HI.out]; exact h1
       have H1:=Lib.hid h1; clear h1
       go_wp2
       exact ⟨⟨m+1,by omega,by go_num,HN.out⟩,by simp [intOf]; omega⟩
     ·have HF:Hid (goodFrom pre (xs.drop (k+1)) (k+1)=goodFrom pre xs 0):=by
       unfold Hid
       rw [← HG.out,← HST2.out (lead_yes (fun j hj=>HD.out j (by have:(mk s).size=s.length:=rfl; omega)))]
      go_wp2
      exact ⟨⟨k+1,by omega,by go_num,HF.out⟩,by simp [intOf]; omega⟩
   ·have HF:Hid (goodFrom pre xs 0=false):=by
     unfold Hid
     rw [← HG.out]
     exact HSP.out (.inl hf0)
    go_wp2
    go_ret
    exact ⟨by rw [HF.out]; rfl,rfl⟩
  ·have HF:Hid (goodFrom pre xs 0=true):=by
    unfold Hid
    rw [← HG.out,List.drop_eq_nil_of_le (by rw [HL.out]; omega),goodFrom]
   go_wp2
   go_ret
   exact ⟨by rw [HF.out]; rfl,rfl⟩
end Go.Proofs.YtnpjklaaokiikaaGreatDoor.Ident
namespace Go.Proofs.YtnpjklaaokiikaaGreatDoor.Ident
open Go.RowKit Num

theorem compare_less:∀ (a b:List UInt8),a≠b→Lib.compareBytes a b=if Op.bytesLess a b=true then -1 else 1:=by
 intro a
 induction a with
 | nil =>
  intro b h
  cases b with
  | nil=>exact absurd rfl h
  | cons y b=>simp [Lib.compareBytes,Op.bytesLess]
 | cons x a ih =>
  intro b h
  cases b with
  | nil=>simp [Lib.compareBytes,Op.bytesLess]
  | cons y b =>
   unfold Lib.compareBytes Op.bytesLess
   rcases Nat.lt_trichotomy x.toNat y.toNat with g | g | g
   ·have g1:x<y:=UInt8.lt_iff_toNat_lt.2 g
    simp [g1]
   ·have e:x=y:=UInt8.toNat_inj.1 g
    subst e
    have:=ih b (fun e=>h (by rw [e]))
    simp [UInt8.lt_irrefl,this]
   ·have g1:y<x:=UInt8.lt_iff_toNat_lt.2 g
    have g2:¬ x<y:=fun k=>by have:=UInt8.lt_iff_toNat_lt.1 k; omega
    have g3:¬ x=y:=fun k=>by subst k; exact g2 g1
    simp [g1,g2,g3]
theorem numeric_all {a:List UInt8} (h:numeric a=true):AllDig a:=all_of_run ((numeric_iff a).1 h).2
theorem cmpId_both {a b:List UInt8} (ha:numeric a=true) (hb:numeric b=true):cmpId a b=if ordN (val a) (val b)=0 then ordN a.length b.length else ordN (val a) (val b):=by
 unfold cmpId; rw [if_pos ha,if_pos hb]
theorem cmpId_first {a b:List UInt8} (ha:numeric a=true) (hb:numeric b=false):cmpId a b=-1:=by
 unfold cmpId; rw [if_pos ha,if_neg (by rw [hb]; decide)]
theorem cmpId_second {a b:List UInt8} (ha:numeric a=false) (hb:numeric b=true):cmpId a b=1:=by
 unfold cmpId; rw [if_neg (by rw [ha]; decide),if_pos hb]
theorem cmpId_neither {a b:List UInt8} (ha:numeric a=false) (hb:numeric b=false):cmpId a b=Lib.compareBytes a b:=by
 unfold cmpId; rw [if_neg (by rw [ha]; decide),if_neg (by rw [hb]; decide)]

theorem refCmp_all (s t:ByteArray) (w:World) (hs:s.size≤maxLen) (ht:t.size≤maxLen) :
  Calls Tryz.prog 148 #[.string s,.string t] w fun e w'=>e=.returned (.int .i64 (cmpId s.data.toList t.data.toList))∧w=w':=by
 unfold maxLen at hs ht
 by_cases hst:s=t
 ·have HF:Hid (cmpId s.data.toList t.data.toList=0):=by rw [hst]; exact cmpId_self _
  subst hst
  have hq:(s.toList == s.toList)=true:=by simp
  go_enter Tryz.func148,Tryz.ntmps148
  go_wp2
  go_ret
  exact ⟨by rw [HF.out]; rfl,rfl⟩
 have HNE:Hid (s.data.toList≠t.data.toList):=fun h=>hst (by have:=congrArg mk h; exact this)
 have hq:(s.toList == t.toList)=false:=by
  rw [Lib.toList_data,Lib.toList_data,beq_eq_false_iff_ne]; exact HNE.out
 clear hst
 cases ha:numeric s.data.toList
 ·cases hb:numeric t.data.toList
  ·have HF:Hid (cmpId s.data.toList t.data.toList=if Op.bytesLess s.toList t.toList=true then -1 else 1):=by
    unfold Hid
    rw [cmpId_neither ha hb,compare_less _ _ HNE.out,Lib.toList_data,Lib.toList_data]
   have HA:=Lib.hid ha; clear ha
   have HC:=Lib.hid hb; clear hb
   cases hl:Op.bytesLess s.toList t.toList
   ·rw [hl,if_neg (by decide)] at HF
    go_enter Tryz.func148,Tryz.ntmps148
    go_wp2_with fail
    refine (ref_numeric_all s _ (by unfold maxLen; omega)).mono ?_
    rintro e w' ⟨rfl,rfl⟩
    rw [HA.out]
    go_wp2_with fail
    refine (ref_numeric_all t _ (by unfold maxLen; omega)).mono ?_
    rintro e w' ⟨rfl,rfl⟩
    rw [HC.out]
    go_wp2
    go_ret
    exact ⟨by rw [HF.out]; rfl,rfl⟩
   ·rw [hl,if_pos rfl] at HF
    go_enter Tryz.func148,Tryz.ntmps148
    go_wp2_with fail
    refine (ref_numeric_all s _ (by unfold maxLen; omega)).mono ?_
    rintro e w' ⟨rfl,rfl⟩
    rw [HA.out]
    go_wp2_with fail
    refine (ref_numeric_all t _ (by unfold maxLen; omega)).mono ?_
    rintro e w' ⟨rfl,rfl⟩
    rw [HC.out]
    go_wp2
    go_ret
    exact ⟨by rw [HF.out]; rfl,rfl⟩
  ·have HF:=Lib.hid (cmpId_second ha hb)
   have HA:=Lib.hid ha; clear ha
   have HC:=Lib.hid hb; clear hb
   go_enter Tryz.func148,Tryz.ntmps148
   go_wp2_with fail
   refine (ref_numeric_all s _ (by unfold maxLen; omega)).mono ?_
   rintro e w' ⟨rfl,rfl⟩
   rw [HA.out]
   go_wp2_with fail
   refine (ref_numeric_all t _ (by unfold maxLen; omega)).mono ?_
   rintro e w' ⟨rfl,rfl⟩
   rw [HC.out]
   go_wp2
   go_ret
   exact ⟨by rw [HF.out]; rfl,rfl⟩
 ·cases hb:numeric t.data.toList
  ·have HF:=Lib.hid (cmpId_first ha hb)
   have HA:=Lib.hid ha; clear ha
   have HC:=Lib.hid hb; clear hb
   go_enter Tryz.func148,Tryz.ntmps148
   go_wp2_with fail
   refine (ref_numeric_all s _ (by unfold maxLen; omega)).mono ?_
   rintro e w' ⟨rfl,rfl⟩
   rw [HA.out]
   go_wp2_with fail
   refine (ref_numeric_all t _ (by unfold maxLen; omega)).mono ?_
   rintro e w' ⟨rfl,rfl⟩
   rw [HC.out]
   go_wp2
   go_ret
   exact ⟨by rw [HF.out]; rfl,rfl⟩
  ·have HF:=Lib.hid (cmpId_both ha hb)
   have AA:=Lib.hid (numeric_all ha)
   have AB:=Lib.hid (numeric_all hb)
   have HA:=Lib.hid ha; clear ha
   have HC:=Lib.hid hb; clear hb
   go_enter Tryz.func148,Tryz.ntmps148
   go_wp2_with fail
   refine (ref_numeric_all s _ (by unfold maxLen; omega)).mono ?_
   rintro e w' ⟨rfl,rfl⟩
   rw [HA.out]
   go_wp2_with fail
   refine (ref_numeric_all t _ (by unfold maxLen; omega)).mono ?_
   rintro e w' ⟨rfl,rfl⟩
   rw [HC.out]
   have HVI:Hid (val s.data.toList=val t.data.toList→s.size≠t.size):=fun h1 h2=>HNE.out (val_inj _ _ AA.out AB.out (by rw [← Lib.size_eq,← Lib.size_eq]; exact h2) h1)
   have HL1:=Lib.hid (Lib.size_eq s)
   have HL2:=Lib.hid (Lib.size_eq t)
   have ZA:Hid (Zeros s.data.toList s):=⟨0,rfl⟩
   have ZB:Hid (Zeros t.data.toList t):=⟨0,rfl⟩
   obtain ⟨l,hl⟩:∃ l,s.data.toList=l:=⟨_,rfl⟩
   obtain ⟨r,hr⟩:∃ r,t.data.toList=r:=⟨_,rfl⟩
   have HG:Hid (cmpId s.data.toList t.data.toList=if ordN (val l) (val r)=0 then ordN s.size t.size else ordN (val l) (val r)):=by have:=HF.out; rw [← HL1.out,← HL2.out,hl,hr] at this; rw [hl,hr]; exact this
   rw [hl] at AA ZA HVI
   rw [hr] at AB ZB HVI
   clear HF HA HC hl hr HL1 HL2 HNE
   go_wp2
   go_loop [8] (fun v=>∃ s':ByteArray,v=.string s'∧Hid (Zeros l s')∧s'.size≤9223372036854775807) (fun v=>t.size - strSize v)
   case atStart=>exact ⟨s,rfl,ZA,hs⟩
   case round =>
    obtain ⟨s',rfl,ZS,hs'⟩:=hrel
    by_cases hlt:s'.size<t.size
    ·go_wp2
     go_round
     case rel=>exact ⟨_,rfl,zero_ahead ZS.out,by rw [zero_size]; omega⟩
     case measure=>simp only [strSize]; rw [zero_size]; omega
    ·go_wp2
     go_loop [9] (fun v=>∃ t':ByteArray,v=.string t'∧Hid (Zeros r t')∧t'.size≤s'.size) (fun v=>s'.size - strSize v)
     case atStart=>exact ⟨t,rfl,ZB,by omega⟩
     case round =>
      obtain ⟨t',rfl,ZT,ht'⟩:=hrel
      by_cases hlt2:t'.size<s'.size
      ·go_wp2
       go_round
       case rel=>exact ⟨_,rfl,zero_ahead ZT.out,by rw [zero_size]; omega⟩
       case measure=>simp only [strSize]; rw [zero_size]; omega
      ·have hsz:s'.size=t'.size:=by omega
       have h1:=zeros_less AA.out AB.out ZS.out ZT.out hsz
       have h2:=zeros_eq AA.out AB.out ZS.out ZT.out hsz
       clear hsz
       rcases Nat.lt_trichotomy (val l) (val r) with h | h | h
       ·have hb1:Op.bytesLess s'.toList t'.toList=true:=h1.2 h
        have HO:Hid (cmpId s.data.toList t.data.toList=-1):=by have:=HG.out; rw [ordN_lt h,if_neg (by decide)] at this; exact this
        clear h h1 h2
        go_wp2
        go_ret
        exact ⟨by rw [HO.out]; rfl,rfl⟩
       ·have hb1:Op.bytesLess s'.toList t'.toList=false:=by rw [← Bool.not_eq_true,h1]; omega
        have hb2:(s'.toList == t'.toList)=true:=h2.2 h
        have hne:=HVI.out h
        have HO:Hid (cmpId s.data.toList t.data.toList=ordN s.size t.size):=by have:=HG.out; rw [ordN_eq h,if_pos rfl] at this; exact this
        clear h h1 h2
        by_cases hlen:s.size<t.size
        ·have HO2:=Lib.hid (HO.out.trans (ordN_lt hlen))
         clear hne
         go_wp2
         go_ret
         exact ⟨by rw [HO2.out]; rfl,rfl⟩
        ·have HO2:=Lib.hid (HO.out.trans (ordN_gt (by omega)))
         clear hne
         go_wp2
         go_ret
         exact ⟨by rw [HO2.out]; rfl,rfl⟩
       ·have hb1:Op.bytesLess s'.toList t'.toList=false:=by rw [← Bool.not_eq_true,h1]; omega
        have hb2:(s'.toList == t'.toList)=false:=by rw [← Bool.not_eq_true,h2]; omega
        have HO:Hid (cmpId s.data.toList t.data.toList=1):=by have:=HG.out; rw [ordN_gt h,if_neg (by decide)] at this; exact this
        clear h h1 h2
        go_wp2
        go_ret
        exact ⟨by rw [HO.out]; rfl,rfl⟩

theorem drop_rows (xs:List (List UInt8)) (k:Nat) (h:k<xs.length):xs.drop k=xs.getD k [] :: xs.drop (k+1):=by
 rw [List.drop_eq_getElem_cons h]; simp [List.getD,List.getElem?_eq_getElem h]
theorem text_mem (xs:List (List UInt8)) (k:Nat) (h:k<xs.length):xs.getD k [] ∈ xs:=by simp [List.getD,List.getElem?_eq_getElem h]
theorem refRows_end {xs ys:List (List UInt8)} {k:Nat} (h:¬ (k<xs.length∧k<ys.length)) (h1:k≤xs.length) (h2:k≤ys.length):cmpRows (xs.drop k) (ys.drop k)=ordN xs.length ys.length:=by
 have e:cmpRows (xs.drop k) (ys.drop k)=ordN (xs.drop k).length (ys.drop k).length:=by
  rcases Nat.lt_or_ge k xs.length with g | g
  ·rw [show ys.drop k=[] from List.drop_eq_nil_of_le (by omega),cmpRows_nil']; rfl
  ·rw [show xs.drop k=[] from List.drop_eq_nil_of_le g,cmpRows_nil]; rfl
 rw [e,List.length_drop,List.length_drop]
 rcases Nat.lt_trichotomy xs.length ys.length with g | g | g
 ·rw [ordN_lt g,ordN_lt (by omega)]
 ·rw [ordN_eq g,ordN_eq (by omega)]
 ·rw [ordN_gt g,ordN_gt (by omega)]

theorem refRows_all (A:Option Addr) (a ca:Nat) (xs:List (List UInt8)) (B:Option Addr) (b cb:Nat) (ys:List (List UInt8)) (w:World) (hA:SRow w A a xs) (hB:SRow w B b ys) (ha:a≤maxLen) (hb:b≤maxLen) (hx:∀ x ∈ xs,x.length≤maxLen) (hy:∀ y ∈ ys,y.length≤maxLen) :
  Calls Tryz.prog 91 #[.slice A a ca,.slice B b cb] w fun e w'=>e=.returned (.int .i64 (cmpRows xs ys))∧Below w.heap.size w w':=by
 unfold maxLen at ha hb
 have HA:=Lib.hid hA
 have HB:=Lib.hid hB
 have HX:=Lib.hid hx
 have HY:=Lib.hid hy
 have HLA:=Lib.hid hA.1
 have HLB:=Lib.hid hB.1
 clear hA hB hx hy
 go_enter Tryz.func91,Tryz.ntmps91
 go_wp2
 go_loopw [5] (fun i W=>∃ k:Nat,k≤a∧k≤b∧i=.int .i64 k∧Hid (cmpRows (xs.drop k) (ys.drop k)=cmpRows xs ys)∧Hid (Below w.heap.size w W)) (fun i _=>a - (intOf i).toNat)
 case atStart=>exact ⟨0,Nat.zero_le _,Nat.zero_le _,rfl,rfl,Below.refl _ _⟩
 case round =>
  obtain ⟨k,hk1,hk2,rfl,HG,HW⟩:=hrel
  by_cases hka:k<a
  ·by_cases hkb:k<b
   ·obtain ⟨g1,o1,rfl,hg1,hc1⟩:=(HA.out.kept HW.out).2 (by omega)
    obtain ⟨g2,o2,rfl,hg2,hc2⟩:=(HB.out.kept HW.out).2 (by omega)
    have hx1:=hc1 k hka
    have hx2:=hc2 k hkb
    clear hc1 hc2
    have HZ1:=Lib.hid (HX.out _ (text_mem xs k (by rw [HLA.out]; exact hka)))
    have HZ2:=Lib.hid (HY.out _ (text_mem ys k (by rw [HLB.out]; exact hkb)))
    have HD:Hid (cmpRows xs ys=if cmpId (xs.getD k []) (ys.getD k [])=0 then cmpRows (xs.drop (k+1)) (ys.drop (k+1)) else cmpId (xs.getD k []) (ys.getD k [])):=by
     unfold Hid
     rw [← HG.out,drop_rows xs k (by rw [HLA.out]; exact hka),drop_rows ys k (by rw [HLB.out]; exact hkb),cmpRows]
    generalize xs.getD k []=s at hx1 HZ1 HD
    generalize ys.getD k []=t at hx2 HZ2 HD
    go_wp2
    go_still_tail 8,(by kernel_rfl)
    change wpList _ _ _ _ _ wr.drew
    have HW2:=Lib.hid HW.out.drew
    generalize wr.drew=w2 at HW2
    clear hx1 hx2
    go_wp2_with fail
    refine (refCmp_all (mk s) (mk t) _ HZ1.out HZ2.out).mono ?_
    rintro e w' ⟨rfl,rfl⟩
    rw [mk_list,mk_list]
    generalize cmpId s t=c at HD ⊢
    by_cases hc:c=0
    ·have HD2:Hid (cmpRows (xs.drop (k+1)) (ys.drop (k+1))=cmpRows xs ys):=by have:=HD.out; rw [if_pos hc] at this; exact this.symm
     subst hc
     clear HD
     go_wp2
     exact ⟨⟨k+1,by omega,by omega,by go_num,HD2.out,HW2.out⟩,by simp [intOf]; omega⟩
    ·have HD2:Hid (cmpRows xs ys=c):=by have:=HD.out; rw [if_neg hc] at this; exact this
     have hn:(c == 0)=false:=by simp [hc]
     have hn2:(c != 0)=true:=by simp [hc]
     clear HD hc
     go_wp2
     go_ret
     exact ⟨by rw [HD2.out]; rfl,HW2.out⟩
   ·have HE:Hid (cmpRows xs ys=ordN a b):=by unfold Hid; rw [← HG.out,refRows_end (by rw [HLA.out,HLB.out]; omega) (by rw [HLA.out]; omega) (by rw [HLB.out]; omega),HLA.out,HLB.out]
    have HE2:=Lib.hid (HE.out.trans (ordN_gt (by omega)))
    go_wp2
    go_ret
    exact ⟨by rw [HE2.out]; rfl,HW.out⟩
  ·have HE:Hid (cmpRows xs ys=ordN a b):=by unfold Hid; rw [← HG.out,refRows_end (by rw [HLA.out,HLB.out]; omega) (by rw [HLA.out]; omega) (by rw [HLB.out]; omega),HLA.out,HLB.out]
   obtain rfl:k=a:=by omega
   rcases Nat.lt_or_ge k b with hlt | hge
   ·have HE2:=Lib.hid (HE.out.trans (ordN_lt hlt))
    go_wp2
    go_ret
    exact ⟨by rw [HE2.out]; rfl,HW.out⟩
   ·obtain rfl:k=b:=by omega
    have HE2:=Lib.hid (HE.out.trans (ordN_eq rfl))
    go_wp2
    go_ret
    exact ⟨by rw [HE2.out]; rfl,HW.out⟩
end Go.Proofs.YtnpjklaaokiikaaGreatDoor.Ident
namespace Go.Proofs.YtnpjklaaokiikaaGreatDoor.Span
open Go.RowKit Num Ident Semver Prec

structure Edge where
 cut:Cut
 step:Int
def cov (l:List Edge) (c:Cut):Int:=(l.map fun e=>if stand e.cut c≤0 then e.step else 0).sum
def total (l:List Edge):Int:=(l.map fun e=>e.step).sum
theorem cov_nil (c:Cut):cov [] c=0:=rfl
theorem cov_cons (e:Edge) (l:List Edge) (c:Cut):cov (e :: l) c=(if stand e.cut c≤0 then e.step else 0)+cov l c:=by unfold cov; rw [List.map_cons,List.sum_cons]
theorem cov_append (l m:List Edge) (c:Cut):cov (l ++ m) c=cov l c+cov m c:=by unfold cov; rw [List.map_append,List.sum_append]
theorem total_cons (e:Edge) (l:List Edge):total (e :: l)=e.step+total l:=by unfold total; rw [List.map_cons,List.sum_cons]
theorem total_append (l m:List Edge):total (l ++ m)=total l+total m:=by unfold total; rw [List.map_append,List.sum_append]
theorem cov_perm {l m:List Edge} (h:l.Perm m) (c:Cut):cov l c=cov m c:=by
 induction h with
 | nil=>rfl
 | cons x _ ih=>rw [cov_cons,cov_cons,ih]
 | swap x y l=>rw [cov_cons,cov_cons,cov_cons,cov_cons]; omega
 | trans _ _ h1 h2=>rw [h1,h2]
theorem total_perm {l m:List Edge} (h:l.Perm m):total l=total m:=by
 induction h with
 | nil=>rfl
 | cons x _ ih=>rw [total_cons,total_cons,ih]
 | swap x y l=>rw [total_cons,total_cons,total_cons,total_cons]; omega
 | trans _ _ h1 h2=>rw [h1,h2]
theorem cov_none {l:List Edge} {c:Cut} (h:∀ e ∈ l,stand c e.cut<0):cov l c=0:=by
 induction l with
 | nil=>rfl
 | cons e l ih =>
  rw [cov_cons,if_neg (lt_not (h e (List.mem_cons_self ..))),ih fun x hx=>h x (List.mem_cons_of_mem _ hx)]; rfl
def edgesOf (l:List Sp) (step:Int):List Edge:=(l.filter cnt).flatMap fun s=>[⟨s.lo,step⟩,⟨s.hi,0 - step⟩]
theorem edgesOf_yes {s:Sp} (l:List Sp) (step:Int) (h:cnt s=true):edgesOf (s :: l) step=⟨s.lo,step⟩ :: ⟨s.hi,0 - step⟩ :: edgesOf l step:=by
 unfold edgesOf; rw [List.filter_cons_of_pos h]; rfl
theorem edgesOf_no {s:Sp} (l:List Sp) (step:Int) (h:cnt s=false):edgesOf (s :: l) step=edgesOf l step:=by
 unfold edgesOf; rw [List.filter_cons_of_neg (by simp [h])]
theorem edgesOf_snoc_yes {s:Sp} (l:List Sp) (step:Int) (h:cnt s=true):edgesOf (l ++ [s]) step=edgesOf l step ++ [⟨s.lo,step⟩,⟨s.hi,0 - step⟩]:=by
 unfold edgesOf; rw [List.filter_append,List.flatMap_append,List.filter_cons_of_pos h]; rfl
theorem edgesOf_snoc_no {s:Sp} (l:List Sp) (step:Int) (h:cnt s=false):edgesOf (l ++ [s]) step=edgesOf l step:=by
 unfold edgesOf; rw [List.filter_append,List.flatMap_append,List.filter_cons_of_neg (by simp [h])]; simp
theorem edgesOf_total (l:List Sp) (step:Int):total (edgesOf l step)=0:=by
 induction l with
 | nil=>rfl
 | cons s l ih =>
  cases h:cnt s
  ·rw [edgesOf_no l step h]; exact ih
  ·rw [edgesOf_yes l step h,total_cons,total_cons,ih]; show step+(0 - step+0)=0; omega
theorem edgesOf_right (l:List Sp) (step:Int):∀ e ∈ edgesOf l step,right e.cut=true:=by
 induction l with
 | nil=>intro e he; cases he
 | cons s l ih =>
  intro e he
  cases h:cnt s
  ·rw [edgesOf_no l step h] at he; exact ih e he
  ·rw [edgesOf_yes l step h] at he
   have hc:=(cnt_iff s).1 h
   rcases List.mem_cons.1 he with rfl | he
   ·exact hc.1
   ·rcases List.mem_cons.1 he with rfl | he
    ·exact hc.2.1
    ·exact ih e he
theorem edgesOf_step (l:List Sp) (step:Int):∀ e ∈ edgesOf l step,e.step=step∨e.step=0 - step:=by
 induction l with
 | nil=>intro e he; cases he
 | cons s l ih =>
  intro e he
  cases h:cnt s
  ·rw [edgesOf_no l step h] at he; exact ih e he
  ·rw [edgesOf_yes l step h] at he
   rcases List.mem_cons.1 he with rfl | he
   ·exact .inl rfl
   ·rcases List.mem_cons.1 he with rfl | he
    ·exact .inr rfl
    ·exact ih e he
def times (l:List Sp) (c:Cut):Nat:=(l.filter fun s=>cnt s && (decide (stand s.lo c≤0) && decide (stand c s.hi<0))).length
theorem times_yes {s:Sp} (l:List Sp) {c:Cut} (h:cnt s=true) (h1:inOne s c):times (s :: l) c=times l c+1:=by
 unfold times; rw [List.filter_cons_of_pos (by simp [h,h1.1,h1.2])]; rfl
theorem times_no {s:Sp} (l:List Sp) {c:Cut} (h:¬ (cnt s=true∧inOne s c)):times (s :: l) c=times l c:=by
 unfold times; rw [List.filter_cons_of_neg (by intro k; simp at k; exact h ⟨k.1,k.2.1,k.2.2⟩)]
theorem edgesOf_cov (l:List Sp) (step:Int) (c:Cut):cov (edgesOf l step) c=step * (times l c:Int):=by
 induction l with
 | nil=>simp [edgesOf,times,cov]
 | cons s l ih =>
  cases h:cnt s
  ·rw [edgesOf_no l step h,times_no l (fun k=>by rw [h] at k; cases k.1)]; exact ih
  ·rw [edgesOf_yes l step h,cov_cons,cov_cons,ih]
   have hc:=(cnt_iff s).1 h
   show (if stand s.lo c≤0 then step else 0)+((if stand s.hi c≤0 then 0 - step else 0)+_)=_
   by_cases h1:stand s.lo c≤0
   ·by_cases h2:stand s.hi c≤0
    ·rw [if_pos h1,if_pos h2,times_no l (fun k=>le_not h2 k.2.2)]; omega
    ·rw [if_pos h1,if_neg h2,times_yes l h ⟨h1,not_le h2⟩,Int.natCast_add,Int.mul_add]
     simp; omega
   ·have h2:¬ stand s.hi c≤0:=fun k=>h1 (le_le (by have:=hc.2.2; omega) k)
    rw [if_neg h1,if_neg h2,times_no l (fun k=>h1 k.2.1)]; omega
theorem times_pos (l:List Sp) (c:Cut):1≤times l c↔inR l c:=by
 induction l with
 | nil =>
  constructor
  ·intro h; simp [times] at h
  ·rintro ⟨s,hs,_⟩; cases hs
 | cons s l ih =>
  by_cases h:cnt s=true∧inOne s c
  ·rw [times_yes l h.1 h.2]
   exact ⟨fun _=>⟨s,List.mem_cons_self ..,h⟩,fun _=>by omega⟩
  ·rw [times_no l h,ih]
   constructor
   ·rintro ⟨t,ht,k⟩; exact ⟨t,List.mem_cons_of_mem _ ht,k⟩
   ·rintro ⟨t,ht,k⟩
    rcases List.mem_cons.1 ht with rfl | ht
    ·exact absurd k h
    ·exact ⟨t,ht,k⟩
theorem Norm.once {l:List Sp} (h:Norm l) (c:Cut):times l c≤1:=by
 induction l with
 | nil=>simp [times]
 | cons s l ih =>
  by_cases k:Span.cnt s=true∧inOne s c
  ·rw [times_yes l k.1 k.2]
   have:¬ 1≤times l c:=by
    rw [times_pos]
    rintro ⟨t,ht,_,i⟩
    exact lt_not (h.ahead t ht) (le_le i.1 (by have:=k.2.2; omega))
   omega
  ·rw [times_no l k]; exact ih h.tail

def go (n:Int):Cut→Bool→Int→Cut→List Edge→List Sp
 | _,_,_,_,[]=>[]
 | cut,was,t,lo,[e] =>
  if was=true∧¬ n≤t+e.step then [⟨lo,cut⟩] else []
 | cut,was,t,lo,e :: f :: r =>
  if stand cut f.cut=0 then go n cut was (t+e.step) lo (f :: r)
  else if n≤t+e.step∧was=false then go n f.cut true (t+e.step) cut (f :: r)
  else if was=true∧¬ n≤t+e.step then ⟨lo,cut⟩ :: go n f.cut false (t+e.step) lo (f :: r)
  else go n f.cut was (t+e.step) lo (f :: r)
def sweepL (n:Int):List Edge→List Sp
 | []=>[]
 | e :: r=>go n e.cut (decide (n≤0)) 0 low (e :: r)

structure Open (cut:Cut) (was:Bool) (lo:Cut) (out:List Sp):Prop where
 norm:Norm out
 yes:was=true→∃ h r,out=⟨lo,h⟩ :: r∧stand cut h≤0∧∀ s ∈ r,stand cut s.lo<0
 no:was=false→∀ s ∈ out,stand cut s.lo≤0

theorem sorted_ge {e:Edge} {r:List Edge} (h:(e :: r).Pairwise fun x y=>stand x.cut y.cut≤0):∀ x ∈ r,stand e.cut x.cut≤0:=(List.pairwise_cons.1 h).1

theorem go_open (n:Int):∀ (l:List Edge) (cut:Cut) (was:Bool) (t:Int) (lo:Cut),l≠[]→(l.Pairwise fun x y=>stand x.cut y.cut≤0)→(∀ e ∈ l,right e.cut=true)→right cut=true →
  (∀ e ∈ l,stand cut e.cut≤0)→(∃ e r,l=e :: r∧stand cut e.cut=0)→(was=true→right lo=true∧stand lo cut<0)→t+total l<n →
  Open cut was lo (go n cut was t lo l)∧∀ c,inS (go n cut was t lo l) c↔(if stand c cut<0 then was=true∧stand lo c≤0 else n≤t+cov l c)
 | [],_,_,_,_,h,_,_,_,_,_,_,_=>absurd rfl h
 | [e],cut,was,t,lo,_,_,_,hc,_,he,hlo,ht=>by
  obtain ⟨e',r',heq,hz⟩:=he
  obtain ⟨rfl,rfl⟩:e=e'∧[]=r':=by injection heq with h1 h2; exact ⟨h1,h2⟩
  have ht2:¬ n≤t+e.step:=by rw [total_cons] at ht; have:total []=0:=rfl; omega
  have hcov:∀ c,¬ stand c cut<0→t+cov [e] c=t+e.step:=fun c h=>by
   rw [cov_cons,cov_nil,if_pos (le_le (by have:=like_flip hz; omega) (not_lt h))]; omega
  unfold go
  cases was with
  | true =>
   rw [if_pos ⟨rfl,ht2⟩]
   obtain ⟨h1,h2⟩:=hlo rfl
   refine ⟨⟨⟨fun s hs=>?_,List.pairwise_singleton _ _⟩,fun _=>⟨cut,[],rfl,by rw [stand_self]; exact Int.le_refl 0,(fun s hs=>by cases hs)⟩,(fun h=>by cases h)⟩,fun c=>?_⟩
   ·rw [List.mem_singleton] at hs; subst hs; exact (cnt_iff _).2 ⟨h1,hc,h2⟩
   ·by_cases k:stand c cut<0
    ·rw [if_pos k]
     constructor
     ·rintro ⟨s,hs,i⟩; rw [List.mem_singleton] at hs; subst hs; exact ⟨rfl,i.1⟩
     ·rintro ⟨_,i⟩; exact ⟨_,List.mem_singleton.2 rfl,i,k⟩
    ·rw [if_neg k,hcov c k]
     constructor
     ·rintro ⟨s,hs,i⟩; rw [List.mem_singleton] at hs; subst hs; exact absurd i.2 k
     ·intro h; exact absurd h ht2
  | false =>
   rw [if_neg (by rintro ⟨h,_⟩; cases h)]
   refine ⟨⟨Norm.nil,(fun h=>by cases h),fun _ s hs=>by cases hs⟩,fun c=>?_⟩
   by_cases k:stand c cut<0
   ·rw [if_pos k]
    constructor
    ·rintro ⟨s,hs,_⟩; cases hs
    ·rintro ⟨h,_⟩; cases h
   ·rw [if_neg k,hcov c k]
    constructor
    ·rintro ⟨s,hs,_⟩; cases hs
    ·intro h; exact absurd h ht2
 | e :: f :: r,cut,was,t,lo,_,hp,hr,hc,hge,he,hlo,ht=>by
  obtain ⟨e',r',heq,hz⟩:=he
  obtain ⟨rfl,rfl⟩:e=e'∧f :: r=r':=by injection heq with h1 h2; exact ⟨h1,h2⟩
  have hp2:=(List.pairwise_cons.1 hp).2
  have hr2:∀ x ∈ f :: r,right x.cut=true:=fun x hx=>hr x (List.mem_cons_of_mem _ hx)
  have ht2:t+e.step+total (f :: r)<n:=by rw [total_cons] at ht; omega
  have hge2:∀ x ∈ f :: r,stand cut x.cut≤0:=fun x hx=>hge x (List.mem_cons_of_mem _ hx)
  have hcov:∀ c,¬ stand c cut<0→t+cov (e :: f :: r) c=t+e.step+cov (f :: r) c:=fun c h=>by
   rw [cov_cons,if_pos (le_le (by have:=like_flip hz; omega) (not_lt h))]; omega
  have hfge:∀ x ∈ f :: r,stand f.cut x.cut≤0:=fun x hx=>by
   rcases List.mem_cons.1 hx with rfl | hx
   ·rw [stand_self]; exact Int.le_refl 0
   ·exact sorted_ge hp2 x hx
  unfold go
  by_cases h0:stand cut f.cut=0
  ·rw [if_pos h0]
   obtain ⟨o,k⟩:=go_open n (f :: r) cut was (t+e.step) lo (by simp) hp2 hr2 hc hge2 ⟨f,r,rfl,h0⟩ hlo ht2
   refine ⟨o,fun c=>(k c).trans ?_⟩
   by_cases q:stand c cut<0
   ·rw [if_pos q,if_pos q]
   ·rw [if_neg q,if_neg q,hcov c q]
  ·rw [if_neg h0]
   have hcf:stand cut f.cut<0:=by have:=hge2 f (List.mem_cons_self ..); omega
   have hfr:=hr2 f (List.mem_cons_self ..)
   have hself:∃ e r',f :: r=e :: r'∧stand f.cut e.cut=0:=⟨f,r,rfl,stand_self _⟩
   have hmid:∀ c,¬ stand c cut<0→stand c f.cut<0→t+e.step+cov (f :: r) c=t+e.step:=fun c _ h=>by
    rw [cov_none fun x hx=>lt_le h (hfge x hx)]; omega
   by_cases h1:n≤t+e.step∧was=false
   ·rw [if_pos h1]
    obtain ⟨h1,rfl⟩:=h1
    obtain ⟨o,k⟩:=go_open n (f :: r) f.cut true (t+e.step) cut (by simp) hp2 hr2 hfr hfge hself (fun _=>⟨hc,hcf⟩) ht2
    obtain ⟨h,q,e1,e2,e3⟩:=o.yes rfl
    refine ⟨⟨o.norm,(fun h=>by cases h),fun _ s hs=>?_⟩,fun c=>(k c).trans ?_⟩
    ·rw [e1] at hs
     rcases List.mem_cons.1 hs with rfl | hs
     ·show stand cut cut≤0; rw [stand_self]; exact Int.le_refl 0
     ·have:=lt_lt hcf (e3 s hs); omega
    ·by_cases q1:stand c cut<0
     ·rw [if_pos q1,if_pos (lt_lt q1 hcf)]
      constructor
      ·rintro ⟨_,g⟩; exact absurd q1 (le_not g)
      ·rintro ⟨g,_⟩; cases g
     ·rw [if_neg q1,hcov c q1]
      by_cases q2:stand c f.cut<0
      ·rw [if_pos q2,hmid c q1 q2]
       exact ⟨fun _=>h1,fun _=>⟨rfl,not_lt q1⟩⟩
      ·rw [if_neg q2]
   ·rw [if_neg h1]
    by_cases h2:was=true∧¬ n≤t+e.step
    ·rw [if_pos h2]
     obtain ⟨rfl,h2⟩:=h2
     obtain ⟨l1,l2⟩:=hlo rfl
     obtain ⟨o,k⟩:=go_open n (f :: r) f.cut false (t+e.step) lo (by simp) hp2 hr2 hfr hfge hself (fun h=>by cases h) ht2
     have hno:=o.no rfl
     refine ⟨⟨⟨fun s hs=>?_,List.pairwise_cons.2 ⟨fun s hs=>?_,o.norm.gap⟩⟩,fun _=>⟨cut,_,rfl,by rw [stand_self]; exact Int.le_refl 0,fun s hs=>lt_le hcf (hno s hs)⟩,fun h=>by cases h⟩,fun c=>?_⟩
     ·rcases List.mem_cons.1 hs with rfl | hs
      ·exact (cnt_iff _).2 ⟨l1,hc,l2⟩
      ·exact o.norm.cnt s hs
     ·exact lt_le hcf (hno s hs)
     ·by_cases q1:stand c cut<0
      ·rw [if_pos q1]
       constructor
       ·rintro ⟨s,hs,i⟩
        rcases List.mem_cons.1 hs with rfl | hs
        ·exact ⟨rfl,i.1⟩
        ·exact absurd (le_le (hno s hs) i.1) (lt_not (lt_lt q1 hcf))
       ·rintro ⟨_,i⟩; exact ⟨_,List.mem_cons_self ..,i,q1⟩
      ·rw [if_neg q1,hcov c q1]
       have step:inS (⟨lo,cut⟩ :: go n f.cut false (t+e.step) lo (f :: r)) c↔inS (go n f.cut false (t+e.step) lo (f :: r)) c:=by
        constructor
        ·rintro ⟨s,hs,i⟩
         rcases List.mem_cons.1 hs with rfl | hs
         ·exact absurd i.2 q1
         ·exact ⟨s,hs,i⟩
        ·rintro ⟨s,hs,i⟩; exact ⟨s,List.mem_cons_of_mem _ hs,i⟩
       refine (step.trans (k c)).trans ?_
       by_cases q2:stand c f.cut<0
       ·rw [if_pos q2,hmid c q1 q2]
        constructor
        ·rintro ⟨g,_⟩; cases g
        ·intro g; exact absurd g h2
       ·rw [if_neg q2]
    ·rw [if_neg h2]
     cases was with
     | true =>
      have h3:n≤t+e.step:=by
       by_cases g:n≤t+e.step
       ·exact g
       ·exact absurd ⟨rfl,g⟩ h2
      obtain ⟨l1,l2⟩:=hlo rfl
      obtain ⟨o,k⟩:=go_open n (f :: r) f.cut true (t+e.step) lo (by simp) hp2 hr2 hfr hfge hself (fun _=>⟨l1,lt_lt l2 hcf⟩) ht2
      obtain ⟨h,q,e1,e2,e3⟩:=o.yes rfl
      refine ⟨⟨o.norm,fun _=>⟨h,q,e1,le_le (by omega) e2,fun s hs=>lt_lt hcf (e3 s hs)⟩,fun h=>by cases h⟩,fun c=>(k c).trans ?_⟩
      by_cases q1:stand c cut<0
      ·rw [if_pos q1,if_pos (lt_lt q1 hcf)]
      ·rw [if_neg q1,hcov c q1]
       by_cases q2:stand c f.cut<0
       ·rw [if_pos q2,hmid c q1 q2]
        exact ⟨fun _=>h3,fun _=>⟨rfl,le_le (by omega) (not_lt q1)⟩⟩
       ·rw [if_neg q2]
     | false =>
      have h3:¬ n≤t+e.step:=fun g=>h1 ⟨g,rfl⟩
      obtain ⟨o,k⟩:=go_open n (f :: r) f.cut false (t+e.step) lo (by simp) hp2 hr2 hfr hfge hself (fun h=>by cases h) ht2
      have hno:=o.no rfl
      refine ⟨⟨o.norm,(fun h=>by cases h),fun _ s hs=>?_⟩,fun c=>(k c).trans ?_⟩
      ·have:=lt_le hcf (hno s hs); omega
      ·by_cases q1:stand c cut<0
       ·rw [if_pos q1,if_pos (lt_lt q1 hcf)]
       ·rw [if_neg q1,hcov c q1]
        by_cases q2:stand c f.cut<0
        ·rw [if_pos q2,hmid c q1 q2]
         constructor
         ·rintro ⟨g,_⟩; cases g
         ·intro g; exact absurd g h3
        ·rw [if_neg q2]
theorem sweep_norm {n:Int} (hn:0<n) {l:List Edge} (hp:l.Pairwise fun x y=>stand x.cut y.cut≤0) (hr:∀ e ∈ l,right e.cut=true) (ht:total l<n) :
  Norm (sweepL n l)∧∀ c,inS (sweepL n l) c↔n≤cov l c:=by
 cases l with
 | nil =>
  refine ⟨Norm.nil,fun c=>⟨(fun ⟨s,hs,_⟩=>by cases hs),fun h=>?_⟩⟩
  rw [cov_nil] at h; omega
 | cons e r =>
  have hd:decide (n≤0)=false:=decide_eq_false (by omega)
  have hge:∀ x ∈ e :: r,stand e.cut x.cut≤0:=fun x hx=>by
   rcases List.mem_cons.1 hx with rfl | hx
   ·rw [stand_self]; exact Int.le_refl 0
   ·exact sorted_ge hp x hx
  unfold sweepL
  rw [hd]
  obtain ⟨o,k⟩:=go_open n (e :: r) e.cut false 0 low (by simp) hp hr (hr e (List.mem_cons_self ..)) hge ⟨e,r,rfl,stand_self _⟩ (fun h=>by cases h) (by omega)
  refine ⟨o.norm,fun c=>(k c).trans ?_⟩
  by_cases q:stand c e.cut<0
  ·rw [if_pos q,cov_none fun x hx=>lt_le q (hge x hx)]
   constructor
   ·rintro ⟨g,_⟩; cases g
   ·intro g; omega
  ·rw [if_neg q]; omega
def nextL (n t:Int) (lo:Cut):List Edge→List Sp
 | []=>[]
 | e :: r=>go n e.cut (decide (n≤t)) t lo (e :: r)
theorem sweepL_next (n:Int) (l:List Edge):sweepL n l=nextL n 0 low l:=by cases l <;> rfl
theorem go_like {n:Int} {cut lo:Cut} {was:Bool} {t:Int} {e f:Edge} {r:List Edge} (h:stand cut f.cut=0):go n cut was t lo (e :: f :: r)=go n cut was (t+e.step) lo (f :: r):=by
 rw [go,if_pos h]
def Ends (cut:Cut) (r:List Edge):Prop:=r=[]∨∃ f q,r=f :: q∧stand cut f.cut≠0
theorem go_open_ {n:Int} {cut lo:Cut} {t:Int} {e:Edge} {r:List Edge} (h:Ends cut r) (h1:n≤t+e.step):go n cut false t lo (e :: r)=nextL n (t+e.step) cut r:=by
 rcases h with rfl | ⟨f,q,rfl,h⟩
 ·rw [go,if_neg (by rintro ⟨g,_⟩; cases g)]; rfl
 ·rw [go,if_neg h,if_pos ⟨h1,rfl⟩]; unfold nextL; rw [decide_eq_true h1]
theorem go_shut {n:Int} {cut lo:Cut} {t:Int} {e:Edge} {r:List Edge} (h:Ends cut r) (h1:¬ n≤t+e.step):go n cut true t lo (e :: r)=⟨lo,cut⟩ :: nextL n (t+e.step) lo r:=by
 rcases h with rfl | ⟨f,q,rfl,h⟩
 ·rw [go,if_pos ⟨rfl,h1⟩]; rfl
 ·rw [go,if_neg h,if_neg (fun g=>h1 g.1),if_pos ⟨rfl,h1⟩]; unfold nextL; rw [decide_eq_false h1]
theorem go_same {n:Int} {cut lo:Cut} {was:Bool} {t:Int} {e:Edge} {r:List Edge} (h:Ends cut r) (h1:decide (n≤t+e.step)=was):go n cut was t lo (e :: r)=nextL n (t+e.step) lo r:=by
 have h2:¬ (was=true∧¬ n≤t+e.step):=by rintro ⟨rfl,g⟩; exact g (of_decide_eq_true h1)
 have h3:¬ (n≤t+e.step∧was=false):=by rintro ⟨g,rfl⟩; exact of_decide_eq_false h1 g
 rcases h with rfl | ⟨f,q,rfl,h⟩
 ·rw [go,if_neg h2]; rfl
 ·rw [go,if_neg h,if_neg h3,if_neg h2]; unfold nextL; rw [h1]
end Go.Proofs.YtnpjklaaokiikaaGreatDoor.Span
