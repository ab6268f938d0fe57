/-
  What the theorem of the last text needs of these: IdWalks, IdCmp, RgMath, SvSame. Conditions: as each theorem states.
-/
import Derived.Test.YtnpjklaaokiikaaGreatDoorSvA1
import Derived.Test.YtnpjklaaokiikaaGreatDoorSvA3
import Derived.Test.YtnpjklaaokiikaaGreatDoorSvA4
import Derived.Test.YtnpjklaaokiikaaGreatDoorShelfTrim
import Derived.StillTailTactics
import Derived.Deep.CutBlock
import Derived.Deep.DeepCutAuto
import Derived.Deep.RegionHeld3
set_option maxRecDepth 100000
set_option maxHeartbeats 25600000
namespace Go.Proofs.YtnpjklaaokiikaaGreatDoor.Ident
open Go.RowKit Num

theorem letter_any (x:Int) (w:World) (h0:0≤x) (h1:x≤255) :
  Calls Tryz.prog 215 #[.int .u8 x] w fun e w'=>e=.returned (.bool (letB x))∧w=w':=by
 by_cases ha:65≤x
 ·by_cases hb:x≤90
  ·have HF:=Lib.hid (letB_yes (.inl ⟨ha,hb⟩))
   go_enter Tryz.func215,Tryz.ntmps215
   go_wp2
   go_ret
   exact ⟨by rw [HF.out]; rfl,rfl⟩
  ·by_cases hc:97≤x
   ·by_cases hd:x≤122
    ·have HF:=Lib.hid (letB_yes (.inr ⟨hc,hd⟩))
     go_enter Tryz.func215,Tryz.ntmps215
     go_wp2
     go_ret
     exact ⟨by rw [HF.out]; rfl,rfl⟩
    ·have HF:=Lib.hid (letB_no (x:=x) (by omega))
     go_enter Tryz.func215,Tryz.ntmps215
     go_wp2
     go_ret
     exact ⟨by rw [HF.out]; rfl,rfl⟩
   ·have HF:=Lib.hid (letB_no (x:=x) (by omega))
    go_enter Tryz.func215,Tryz.ntmps215
    go_wp2
    go_ret
    exact ⟨by rw [HF.out]; rfl,rfl⟩
 ·have hc:¬ 97≤x:=by omega
  have HF:=Lib.hid (letB_no (x:=x) (by omega))
  go_enter Tryz.func215,Tryz.ntmps215
  go_wp2
  go_ret
  exact ⟨by rw [HF.out]; rfl,rfl⟩
def LenJ (w:World) (A:Option Addr) (n c:Nat) (l:List UInt8) (a':Act) (w':World):Prop :=
 w=w'∧∃ (k:Nat) (u4 u5 u6 u7 u8 u9 u10 u11 u12 u13 u14 u15 u16 u17 u18 u19 u20 u21 u22 u23 u24 u25 u26 u27 u28 u29 u30 u31:Value),k≤n∧(∀ j,j<k→isId (l.getD j 0)=true)∧a'={ tmps:=#[.slice A n c,undef,.int .i64 0,.int .i64 k,u4,u5,u6,u7,u8,u9,u10,u11,u12,u13,u14,u15,u16,u17,u18,u19,u20,u21,u22,u23,u24,u25,u26,u27,u28,u29,u30,u31],defers:=[] }
def LenM (n:Nat) (a':Act) (_:World):Nat:=n - (intOf (a'.tmps.getD 3 undef)).toNat
theorem length_any (A:Option Addr) (n c:Nat) (l:List UInt8) (w:World) (h:Row w A n l) :
  Calls Tryz.prog 176 #[.slice A n c] w fun e w'=>e=.returned (.int .i64 (lead l))∧w=w':=by
 obtain ⟨hl,hm,hc⟩:=h
 unfold maxLen at hm
 have HC:=Lib.hid hc; clear hc
 have HL:=Lib.hid hl; clear hl
 go_enter Tryz.func176,Tryz.ntmps176
 go_wp2
 refine wp_scope_back 0 (LenJ w A n c l) (LenM n) rfl ?_ ?_
 ·rintro a' w' ⟨rfl,k,u4,u5,u6,u7,u8,u9,u10,u11,u12,u13,u14,u15,u16,u17,u18,u19,u20,u21,u22,u23,u24,u25,u26,u27,u28,u29,u30,u31,hk,hd,rfl⟩
  have HD:=Lib.hid hd; clear hd
  by_cases hlt:k<n
  ·obtain ⟨b,o,rfl,hb,hcell⟩:=HC.out (by omega)
   have hx:=hcell k hlt
   clear hcell HC
   have hbd:=byteAt_bd l k
   have HI:Hid (isId (l.getD k 0)=idB (byteAt l k)):=(idB_at _).symm
   generalize byteAt l k=x at hx hbd HI
   obtain ⟨hx0,hx1⟩:=hbd
   have HN:Hid (idB x=true→∀ j,j<k+1→isId (l.getD j 0)=true):=fun hi j hj=>by
    rcases Nat.lt_or_ge j k with hj1 | hj1
    ·exact HD.out j hj1
    ·obtain rfl:j=k:=by omega
     rw [HI.out]; exact hi
   have HS:Hid (idB x=false→lead l=k):=fun hn=>lead_stop l k (by rw [HL.out]; omega) HD.out (.inr (by rw [HI.out]; exact hn))
   go_wp2_with fail
   refine (digit_any _ _ hx0 hx1).mono ?_
   rintro e w' ⟨rfl,rfl⟩
   cases h1:digB x
   ·have H1:=Lib.hid h1; clear h1
    go_wp2_with fail
    refine (letter_any _ _ hx0 hx1).mono ?_
    rintro e w' ⟨rfl,rfl⟩
    cases h2:letB x
    ·have H2:=Lib.hid h2; clear h2
     by_cases h3:x=45
     ·have hb3:(x == 45)=true:=by simp [h3]
      have H3:=Lib.hid hb3
      have H4:=Lib.hid h3; clear h3
      go_wp2
      go_step3
      rw [show ((k:Int)+1)=((k+1:Nat):Int) from rfl]
      refine ⟨rfl,⟨rfl,k+1,_,_,_,_,_,_,_,_,_,_,_,_,_,_,_,_,_,_,_,_,_,_,_,_,_,_,_,_,by omega,HN.out (by unfold idB; rw [H3.out]; simp),rfl⟩,?_⟩
      simp [LenM,intOf]; omega
     ·have hb3:(x == 45)=false:=by simp [h3]
      have H3:=Lib.hid hb3
      clear h3
      go_wp2
      simp only [Exit.jump]
      go_ret
      exact ⟨ret_int (by rw [HS.out (by unfold idB; rw [H1.out,H2.out,H3.out]; rfl)]),rfl⟩
    ·have H2:=Lib.hid h2; clear h2
     go_wp2
     go_step3
     rw [show ((k:Int)+1)=((k+1:Nat):Int) from rfl]
     refine ⟨rfl,⟨rfl,k+1,_,_,_,_,_,_,_,_,_,_,_,_,_,_,_,_,_,_,_,_,_,_,_,_,_,_,_,_,by omega,HN.out (by unfold idB; rw [H2.out]; simp),rfl⟩,?_⟩
     simp [LenM,intOf]; omega
   ·have H1:=Lib.hid h1; clear h1
    go_wp2
    go_step3
    rw [show ((k:Int)+1)=((k+1:Nat):Int) from rfl]
    refine ⟨rfl,⟨rfl,k+1,_,_,_,_,_,_,_,_,_,_,_,_,_,_,_,_,_,_,_,_,_,_,_,_,_,_,_,_,by omega,HN.out (by unfold idB; rw [H1.out]; rfl),rfl⟩,?_⟩
    simp [LenM,intOf]; omega
  ·have HS:Hid (lead l=k):=lead_stop l k (by rw [HL.out]; omega) HD.out (.inl (by rw [HL.out]; omega))
   go_wp2
   simp only [Exit.jump]
   go_ret
   exact ⟨ret_int (by rw [HS.out]),rfl⟩
 ·intro HP
  go_wp2
  go_step3
  rename_i hK
  exact hK _ _ (HP.out _ _ ⟨rfl,0,_,_,_,_,_,_,_,_,_,_,_,_,_,_,_,_,_,_,_,_,_,_,_,_,_,_,_,_,by omega,(fun j hj=>by omega),rfl⟩)
theorem fault_any (s:ByteArray) (i:Nat) (pre:Bool) (w:World) (hs:s.size≤maxLen) (hi:i≤maxLen) :
  Calls Tryz.prog 175 #[.string s,.int .i64 i,.bool pre] w fun e w'=>e=.returned (.int .i64 (fault s.data.toList i pre))∧Below w.heap.size w w':=by
 have HS:=Lib.hid hs
 unfold maxLen at hs hi
 have HL:=Lib.hid (Lib.size_eq s)
 by_cases h0:s.size=0
 ·have HF:=Lib.hid (fault_5 (s:=s.data.toList) i pre (by rw [← HL.out]; exact h0))
  have hem:=(empty_iff s).2 h0
  have H0:=Lib.hid h0; clear h0
  go_enter Tryz.func175,Tryz.ntmps175
  go_wp2
  go_ret
  exact ⟨by rw [HF.out]; rfl,Below.refl _ _⟩
 ·have hem:=(empty_no s).2 h0
  have H0:Hid (s.data.toList.length≠0):=by unfold Hid; rw [← HL.out]; exact h0
  clear h0
  by_cases h1:255<s.size
  ·have HF:=Lib.hid (fault_4 (s:=s.data.toList) (i:=i) pre H0.out (.inl (by rw [← HL.out]; exact h1)))
   go_enter Tryz.func175,Tryz.ntmps175
   go_wp2
   go_ret
   exact ⟨by rw [HF.out]; rfl,Below.refl _ _⟩
  ·by_cases h2:16≤i
   ·have HF:=Lib.hid (fault_4 (s:=s.data.toList) (i:=i) pre H0.out (.inr h2))
    go_enter Tryz.func175,Tryz.ntmps175
    go_wp2
    go_ret
    exact ⟨by rw [HF.out]; rfl,Below.refl _ _⟩
   ·have H12:Hid (¬ (255<s.data.toList.length∨16≤i)):=by unfold Hid; rw [← HL.out]; omega
    cases pre
    ·have HF:=Lib.hid (fault_0 (s:=s.data.toList) (i:=i) (pre:=false) H0.out H12.out (by simp))
     go_enter Tryz.func175,Tryz.ntmps175
     go_wp2
     go_ret
     exact ⟨by rw [HF.out]; rfl,Below.refl _ _⟩
    ·cases h3:numeric s.data.toList
     ·have HF:=Lib.hid (fault_0 (s:=s.data.toList) (i:=i) (pre:=true) H0.out H12.out (by simp [h3]))
      have H3:=Lib.hid h3; clear h3
      go_enter Tryz.func175,Tryz.ntmps175
      go_wp2_with fail
      refine (numeric_any s _ HS.out).mono ?_
      rintro e w' ⟨rfl,rfl⟩
      rw [H3.out]
      go_wp2
      go_ret
      exact ⟨by rw [HF.out]; rfl,Below.refl _ _⟩
     ·cases h4:isNum s.data.toList
      ·have HF:=Lib.hid (fault_3 (s:=s.data.toList) (i:=i) (pre:=true) H0.out H12.out ⟨rfl,h3,h4⟩)
       have H3:=Lib.hid h3; clear h3
       have H4:=Lib.hid h4; clear h4
       go_enter Tryz.func175,Tryz.ntmps175
       go_wp2_with fail
       refine (numeric_any s _ HS.out).mono ?_
       rintro e w' ⟨rfl,rfl⟩
       rw [H3.out]
       go_wp2_with fail
       refine (is_any s _ HS.out).mono ?_
       rintro e w1 ⟨rfl,hb1⟩
       rw [H4.out]
       go_wp2
       go_ret
       exact ⟨by rw [HF.out]; rfl,hb1⟩
      ·have HF:=Lib.hid (fault_0 (s:=s.data.toList) (i:=i) (pre:=true) H0.out H12.out (by simp [h4]))
       have H3:=Lib.hid h3; clear h3
       have H4:=Lib.hid h4; clear h4
       go_enter Tryz.func175,Tryz.ntmps175
       go_wp2_with fail
       refine (numeric_any s _ HS.out).mono ?_
       rintro e w' ⟨rfl,rfl⟩
       rw [H3.out]
       go_wp2_with fail
       refine (is_any s _ HS.out).mono ?_
       rintro e w1 ⟨rfl,hb1⟩
       rw [H4.out]
       go_wp2
       go_ret
       exact ⟨by rw [HF.out]; rfl,hb1⟩
end Go.Proofs.YtnpjklaaokiikaaGreatDoor.Ident
namespace Go.Proofs.YtnpjklaaokiikaaGreatDoor.Ident
open Go.RowKit Num

theorem trim_le (l:List UInt8):(Lib.trimLeftB l 48).length≤l.length:=(List.dropWhile_sublist _).length_le

theorem numeral_any (s:ByteArray) (w:World) :
  Calls Tryz.prog 255 #[.string s] w fun e w'=>e=.returned (.string (mk (numeral s.data.toList)))∧w=w':=by
 obtain ⟨t,ht⟩:∃ t:ByteArray,(⟨(Lib.trimLeftB s.data.toList 48).toArray⟩:ByteArray)=t:=⟨_,rfl⟩
 have HT:=Lib.hid ht
 have hz:t.size=(Lib.trimLeftB s.data.toList 48).length:=by rw [← ht]; rfl
 have HK:Hid (∀ W,Calls Tryz.prog 275 #[.string s,.string ⟨#[48]⟩] W fun e w'=>e=.returned (.string t)∧w'=W):=fun W=>by
  have:=Tryz.strings_TrimLeft_one s 48 (by decide) W
  rw [ht] at this
  exact this
 clear ht
 by_cases h0:t.size=0
 ·have HF:Hid (numeral s.data.toList=[48]):=by unfold Hid numeral; rw [if_pos (by rw [← hz]; exact h0)]
  have hem:=(empty_iff t).2 h0
  clear h0 hz
  go_enter Tryz.func255,Tryz.ntmps255
  go_wp2_with fail
  refine (HK.out _).mono ?_
  rintro e w' ⟨rfl,rfl⟩
  go_wp2
  go_ret
  exact ⟨by rw [HF.out]; rfl,rfl⟩
 ·have HF:Hid (numeral s.data.toList=Lib.trimLeftB s.data.toList 48):=by unfold Hid numeral; rw [if_neg (by rw [← hz]; exact h0)]
  have hem:=(empty_no t).2 h0
  clear h0 hz
  go_enter Tryz.func255,Tryz.ntmps255
  go_wp2_with fail
  refine (HK.out _).mono ?_
  rintro e w' ⟨rfl,rfl⟩
  go_wp2
  go_ret
  exact ⟨by rw [HF.out,← HT.out]; rfl,rfl⟩

theorem numeral_le (l:List UInt8) (h:0<l.length):(numeral l).length≤l.length:=by
 unfold numeral
 split
 ·simp; omega
 ·exact trim_le l

theorem numbers_anyD (s t:ByteArray) (w:World) (hs:s.size≤maxLen) (ht:t.size≤maxLen) (ha:numeric s.data.toList=true) (hb:numeric t.data.toList=true) :
  Calls Tryz.prog 233 #[.string s,.string t] w fun e w'=>e=.returned (.int .i64 (cmpId s.data.toList t.data.toList))∧BelowD w.heap.size w w':=by
 have HF:Hid (cmpId s.data.toList t.data.toList=if ordN (val s.data.toList) (val t.data.toList)=0 then ordN s.data.toList.length t.data.toList.length else ordN (val s.data.toList) (val t.data.toList)):=by
  unfold Hid cmpId; rw [if_pos ha,if_pos hb]
 have HL:=Lib.hid (Lib.size_eq s)
 have HM:=Lib.hid (Lib.size_eq t)
 rw [numeric_iff] at ha hb
 have z1:(mk (numeral s.data.toList)).size≤maxLen:=by have:=numeral_le _ ha.1; rw [mk_size]; rw [HL.out] at hs; omega
 have z2:(mk (numeral t.data.toList)).size≤maxLen:=by have:=numeral_le _ hb.1; rw [mk_size]; rw [HM.out] at ht; omega
 have HC:Hid (∀ W,Calls Tryz.prog 254 #[.string (mk (numeral s.data.toList)),.string (mk (numeral t.data.toList))] W fun e w'=>e=.returned (.int .i64 (ordN (val s.data.toList) (val t.data.toList)))∧BelowD W.heap.size W w'):=fun W=>by
  have:=Num.compare_anyD (mk (numeral s.data.toList)) (mk (numeral t.data.toList)) W z1 z2
  rw [mk_list,mk_list,cmpNum_yes (numeral_num (all_of_run ha.2)) (numeral_num (all_of_run hb.2)),numeral_val,numeral_val] at this
  exact this
 clear z1 z2 ha hb
 unfold maxLen at hs ht
 generalize val s.data.toList=x at HC HF
 generalize val t.data.toList=y at HC HF
 rw [← HL.out,← HM.out] at HF
 rcases ordN_cases x y with ⟨_,e⟩ | ⟨_,e⟩ | ⟨_,e⟩
 ·rw [e] at HC HF
  have HF2:Hid (cmpId s.data.toList t.data.toList=-1):=by have:=HF.out; rwa [if_neg (by omega)] at this
  clear e HF
  go_enter Tryz.func233,Tryz.ntmps233
  go_wp2_with fail
  refine (numeral_any s _).mono ?_
  rintro e w' ⟨rfl,rfl⟩
  go_wp2_with fail
  refine (numeral_any t _).mono ?_
  rintro e w' ⟨rfl,rfl⟩
  go_wp2_with fail
  refine (HC.out _).mono ?_
  rintro e w1 ⟨rfl,hb1⟩
  go_wp2
  go_ret
  exact ⟨by rw [HF2.out]; rfl,hb1⟩
 ·rw [e] at HC HF
  have HF2:Hid (cmpId s.data.toList t.data.toList=ordN s.size t.size):=by have:=HF.out; rwa [if_pos rfl] at this
  clear e HF
  go_enter Tryz.func233,Tryz.ntmps233
  go_wp2_with fail
  refine (numeral_any s _).mono ?_
  rintro e w' ⟨rfl,rfl⟩
  go_wp2_with fail
  refine (numeral_any t _).mono ?_
  rintro e w' ⟨rfl,rfl⟩
  go_wp2_with fail
  refine (HC.out _).mono ?_
  rintro e w1 ⟨rfl,hb1⟩
  go_wp2_with fail
  refine (cmp_any _ _ _).mono ?_
  rintro e w' ⟨rfl,rfl⟩
  go_wp2
  go_ret
  exact ⟨by rw [HF2.out]; rfl,hb1⟩
 ·rw [e] at HC HF
  have HF2:Hid (cmpId s.data.toList t.data.toList=1):=by have:=HF.out; rwa [if_neg (by omega)] at this
  clear e HF
  go_enter Tryz.func233,Tryz.ntmps233
  go_wp2_with fail
  refine (numeral_any s _).mono ?_
  rintro e w' ⟨rfl,rfl⟩
  go_wp2_with fail
  refine (numeral_any t _).mono ?_
  rintro e w' ⟨rfl,rfl⟩
  go_wp2_with fail
  refine (HC.out _).mono ?_
  rintro e w1 ⟨rfl,hb1⟩
  go_wp2
  go_ret
  exact ⟨by rw [HF2.out]; rfl,hb1⟩

theorem cmpId_left {a b:List UInt8} (ha:numeric a=true) (hb:numeric b=false):cmpId a b=-1:=by
 unfold cmpId; rw [if_pos ha,if_neg (by simp [hb])]
theorem cmpId_right {a b:List UInt8} (ha:numeric a=false) (hb:numeric b=true):cmpId a b=1:=by
 unfold cmpId; rw [if_neg (by simp [ha]),if_pos hb]
theorem cmpId_none {a b:List UInt8} (ha:numeric a=false) (hb:numeric b=false):cmpId a b=Lib.compareBytes a b:=by
 unfold cmpId; rw [if_neg (by simp [ha]),if_neg (by simp [hb])]

theorem idcmp_anyD (s t:ByteArray) (w:World) (hs:s.size≤maxLen) (ht:t.size≤maxLen) :
  Calls Tryz.prog 199 #[.string s,.string t] w fun e w'=>e=.returned (.int .i64 (cmpId s.data.toList t.data.toList))∧BelowD w.heap.size w w':=by
 have HS:=Lib.hid hs; clear hs
 have HT:=Lib.hid ht; clear ht
 cases ha:numeric s.data.toList
 ·cases hb:numeric t.data.toList
  ·have HF:=Lib.hid (cmpId_none ha hb)
   have HA:=Lib.hid ha; clear ha
   have HB:=Lib.hid hb; clear hb
   go_enter Tryz.func199,Tryz.ntmps199
   go_wp2_with fail
   refine (numeric_any s _ HS.out).mono ?_
   rintro e w' ⟨rfl,rfl⟩
   rw [HA.out]
   go_wp2_with fail
   refine (numeric_any t _ HT.out).mono ?_
   rintro e w' ⟨rfl,rfl⟩
   rw [HB.out]
   go_wp2_with fail
   refine (strcmp_any _ _ _).mono ?_
   rintro e w' ⟨rfl,rfl⟩
   go_wp2
   go_ret
   exact ⟨by rw [HF.out]; rfl,BelowD.refl _ _⟩
  ·have HF:=Lib.hid (cmpId_right ha hb)
   have HA:=Lib.hid ha; clear ha
   have HB:=Lib.hid hb; clear hb
   go_enter Tryz.func199,Tryz.ntmps199
   go_wp2_with fail
   refine (numeric_any s _ HS.out).mono ?_
   rintro e w' ⟨rfl,rfl⟩
   rw [HA.out]
   go_wp2_with fail
   refine (numeric_any t _ HT.out).mono ?_
   rintro e w' ⟨rfl,rfl⟩
   rw [HB.out]
   go_wp2
   go_ret
   exact ⟨by rw [HF.out]; rfl,BelowD.refl _ _⟩
 ·cases hb:numeric t.data.toList
  ·have HF:=Lib.hid (cmpId_left ha hb)
   have HA:=Lib.hid ha; clear ha
   have HB:=Lib.hid hb; clear hb
   go_enter Tryz.func199,Tryz.ntmps199
   go_wp2_with fail
   refine (numeric_any s _ HS.out).mono ?_
   rintro e w' ⟨rfl,rfl⟩
   rw [HA.out]
   go_wp2_with fail
   refine (numeric_any t _ HT.out).mono ?_
   rintro e w' ⟨rfl,rfl⟩
   rw [HB.out]
   go_wp2
   go_ret
   exact ⟨by rw [HF.out]; rfl,BelowD.refl _ _⟩
  ·have HC:=Lib.hid (fun W=>numbers_anyD s t W HS.out HT.out ha hb)
   have HA:=Lib.hid ha; clear ha
   have HB:=Lib.hid hb; clear hb
   go_enter Tryz.func199,Tryz.ntmps199
   go_wp2_with fail
   refine (numeric_any s _ HS.out).mono ?_
   rintro e w' ⟨rfl,rfl⟩
   rw [HA.out]
   go_wp2_with fail
   refine (numeric_any t _ HT.out).mono ?_
   rintro e w' ⟨rfl,rfl⟩
   rw [HB.out]
   go_wp2_with fail
   refine (HC.out _).mono ?_
   rintro e w1 ⟨rfl,hb1⟩
   go_wp2
   go_ret
   exact ⟨rfl,hb1⟩
end Go.Proofs.YtnpjklaaokiikaaGreatDoor.Ident
namespace Go.Proofs.YtnpjklaaokiikaaGreatDoor.Range
open Num Ident Semver

inductive Rng where
 | mk (kind:Int) (v:Ver) (l:List Rng)
def Rng.kind:Rng→Int
 | .mk k _ _=>k
def Rng.ver:Rng→Ver
 | .mk _ v _=>v
def Rng.subs:Rng→List Rng
 | .mk _ _ l=>l
def noRng:Rng:=.mk 0 noVer []
instance:Inhabited Rng:=⟨noRng⟩

def blankB (b:UInt8):Bool:=b == 32 || b == 9
def blanks:List UInt8→List UInt8
 | []=>[]
 | b :: s=>if blankB b then blanks s else b :: s
def stands (t s:List UInt8):Bool:=t.isPrefixOf s
def oneOf (some s:List UInt8):Bool:=match s with
 | []=>false
 | b :: _=>decide (b ∈ some)
def lackN (s:List UInt8):Nat:=if s=[] then 5 else 3
def digits:List UInt8:=[48,49,50,51,52,53,54,55,56,57]
def starts:List UInt8:=[40,33,42,62,60,61,94,126,48,49,50,51,52,53,54,55,56,57]
def ops:List (List UInt8):=[[62,61],[62],[60,61],[60],[61],[33,61],[94],[126]]
def opFrom (s:List UInt8):List (List UInt8)→Int→Int × List UInt8
 | [],_=>(5,[])
 | t :: r,k=>if stands t s then (k,t) else opFrom s r (k+1)
def opOf (s:List UInt8):Int × List UInt8:=opFrom s ops 1
abbrev Out:=Nat × List UInt8 × Rng
def verAt (kind:Int) (s:List UInt8):Out :=
 if oneOf digits s=true then
  if (vparse s 0).1≠0 then ((vparse s 0).1,s.drop (vparse s 0).2.1,noRng) else (0,blanks (s.drop (vparse s 0).2.1),.mk kind (vparse s 0).2.2 [])
 else (lackN s,s,noRng)
def whole (kind:Int) (acc:List Rng) (r:Rng):Rng:=if acc=[] then r else .mk kind noVer (acc ++ [r])
def sev (pf:List UInt8→Out) (ff:List UInt8→Option (List UInt8)) (kind:Int):Nat→List Rng→List UInt8→Out
 | 0,_,s=>(99,s,noRng)
 | n+1,acc,s=>if (pf s).1≠0 then ((pf s).1,(pf s).2.1,noRng) else
  match ff (pf s).2.1 with
  | some s'=>sev pf ff kind n (acc ++ [(pf s).2.2]) s'
  | none=>(0,(pf s).2.1,whole kind acc (pf s).2.2)
def furE (s:List UInt8):Option (List UInt8):=if stands [124,124] s=true then some (blanks (s.drop 2)) else none
def furO (s:List UInt8):Option (List UInt8):=if stands [44] s=true then some (blanks (s.drop 1)) else if oneOf starts s=true then some s else none
def everyF (pf:List UInt8→Out) (s:List UInt8):Out:=sev pf furO 9 (s.length+1) [] s
def exprF (pf:List UInt8→Out) (s:List UInt8):Out:=sev (everyF pf) furE 10 (s.length+1) [] s
def shutF (t:Out):Out:=if t.1≠0 then (t.1,t.2.1,noRng) else if stands [41] t.2.1=true then (0,blanks (t.2.1.drop 1),t.2.2) else (lackN t.2.1,t.2.1,noRng)
def notF (t:Out):Out:=if t.1≠0 then (t.1,t.2.1,noRng) else (0,t.2.1,.mk 11 noVer [t.2.2])
def oneF (sub:Option (List UInt8→Out)) (s:List UInt8):Out :=
 if stands [42] s=true then (0,blanks (s.drop 1),noRng)
 else if stands [40] s=true then (match sub with
  | none=>(8,s,noRng)
  | some f=>shutF (exprF f (blanks (s.drop 1))))
 else if (opOf s).2=[]∧stands [33] s=true then (match sub with
  | none=>(8,s,noRng)
  | some f=>notF (f (blanks (s.drop 1))))
 else verAt (opOf s).1 (blanks (s.drop (opOf s).2.length))
def pone:Nat→List UInt8→Out
 | 0=>oneF none
 | k+1=>oneF (some (pone k))

def bracketed (outer kind:Int):Bool:=decide (kind=10∨kind=9∧outer≠10)
def ofVersion (kind:Int):Bool:=decide (1≤kind∧kind≤8)
def opens (outer kind:Int):Nat:=(if outer=11 then 1 else 0)+(if bracketed outer kind=true then 1 else 0)
def fits (kind:Int) (v:Ver) (n:Nat):Bool :=
 if ofVersion kind=true then goodV v && decide (n=0)
 else if sameV v noVer=false then false
 else if kind=0 then decide (n=0) else if kind=9∨kind=10 then decide (2≤n) else if kind=11 then decide (n=1) else false
mutual
def goodR:Rng→Nat→Bool
 | .mk kind v l,deep=>decide (deep≤64) && fits kind v l.length && goodL kind l deep
def goodL (outer:Int):List Rng→Nat→Bool
 | [],_=>true
 | r :: rs,deep=>goodR r (deep+opens outer r.kind) && goodL outer rs deep
end
def markR (kind:Int) (v:Ver):List UInt8 :=
 if kind=0 then [42] else if kind=9∨kind=10 then [] else if kind=11 then [33] else if ofVersion kind=true then ops.getD (kind - 1).toNat [] ++ vtext v else vtext v
def aheadR (outer kind:Int) (told:Nat):List UInt8 :=
 if outer=11∧kind=5 then [32] else if told=0 then [] else if outer=10 then [32,124,124,32] else [44,32]
def openR (outer kind:Int):List UInt8:=if bracketed outer kind=true then [40] else []
def shutR (outer kind:Int):List UInt8:=if bracketed outer kind=true then [41] else []
def most (kind:Int) (n:Nat):Nat:=if kind=9∨kind=10 then n else if kind=11 then min 1 n else 0
mutual
def textR:Rng→List UInt8
 | .mk kind v l=>markR kind v ++ textL kind (most kind l.length) l 0
def textL (outer:Int) (m:Nat):List Rng→Nat→List UInt8
 | [],_=>[]
 | r :: rs,i=>if i<m then aheadR outer r.kind i ++ (openR outer r.kind ++ textR r ++ shutR outer r.kind) ++ textL outer m rs (i+1) else []
end
theorem goodR_eq (kind:Int) (v:Ver) (l:List Rng) (deep:Nat):goodR (.mk kind v l) deep=(decide (deep≤64) && fits kind v l.length && goodL kind l deep):=rfl
theorem goodL_cons (outer:Int) (r:Rng) (rs:List Rng) (deep:Nat):goodL outer (r :: rs) deep=(goodR r (deep+opens outer r.kind) && goodL outer rs deep):=rfl
end Go.Proofs.YtnpjklaaokiikaaGreatDoor.Range
namespace Go.Proofs.YtnpjklaaokiikaaGreatDoor.Semver
open Go.RowKit Num Ident

theorem equal_any (A:Option Addr) (a ca:Nat) (xs:List (List UInt8)) (B:Option Addr) (b cb:Nat) (ys:List (List UInt8)) (w:World) (hA:SRow w A a xs) (hB:SRow w B b ys) (ha:a≤maxLen) (hb:b≤maxLen) :
  Calls Tryz.prog 187 #[.slice A a ca,.slice B b cb] w fun e w'=>e=.returned (.bool (sameB xs ys))∧Below w.heap.size w w':=by
 unfold maxLen at ha hb
 have HA:=Lib.hid hA
 have HB:=Lib.hid hB
 have HLA:=Lib.hid hA.1
 have HLB:=Lib.hid hB.1
 clear hA hB
 by_cases hab:a=b
 ·subst hab
  go_enter Tryz.func187,Tryz.ntmps187
  go_wp2
  go_loopw [13] (fun i W=>∃ k:Nat,k≤a∧i=.int .i64 k∧Hid (∀ j,j<k→xs.getD j []=ys.getD j [])∧Hid (Below w.heap.size w W)) (fun i _=>a - (intOf i).toNat)
  case atStart=>exact ⟨0,Nat.zero_le _,rfl,(fun j hj=>by omega),Below.refl _ _⟩
  case round =>
   obtain ⟨k,hk,rfl,HD,HW⟩:=hrel
   by_cases hlt:k<a
   ·obtain ⟨g1,o1,rfl,hg1,hc1⟩:=(HA.out.kept HW.out).2 (by omega)
    obtain ⟨g2,o2,rfl,hg2,hc2⟩:=(HB.out.kept HW.out).2 (by omega)
    have hx1:=hc1 k hlt
    have hx2:=hc2 k hlt
    clear hc1 hc2
    obtain ⟨s,hs⟩:∃ s,mk (xs.getD k [])=s:=⟨_,rfl⟩
    obtain ⟨t,ht⟩:∃ t,mk (ys.getD k [])=t:=⟨_,rfl⟩
    have HS:Hid (s=t→xs.getD k []=ys.getD k []):=fun h=>by rw [← hs,← ht] at h; have:=congrArg (fun z:ByteArray=>z.data.toList) h; exact this
    have HS2:Hid (s≠t→xs≠ys):=fun h h2=>h (by rw [← hs,← ht,h2])
    rw [hs] at hx1
    rw [ht] at hx2
    clear hs ht
    by_cases hst:s=t
    ·have HS3:=Lib.hid (HS.out hst)
     subst hst
     have hq:(s.toList == s.toList)=true:=by simp
     have hq2:(s.toList != s.toList)=false:=by simp
     go_wp2
     go_still (by kernel_rfl)
     have HW2:=Lib.hid HW.out.drew
     go_wp2
     refine ⟨⟨k+1,by omega,by go_num,(fun j hj=>?_),HW2.out⟩,by simp [intOf]; omega⟩
     rcases Nat.lt_or_ge j k with hj1 | hj1
     ·exact HD.out j hj1
     ·obtain rfl:j=k:=by omega
      exact HS3.out
    ·have HS3:=Lib.hid (HS2.out hst)
     have hq:(s.toList == t.toList)=false:=by
      rw [Lib.toList_data,Lib.toList_data,beq_eq_false_iff_ne]
      exact fun h=>hst (by have:=congrArg mk h; exact this)
     have hq2:(s.toList != t.toList)=true:=by rw [bne,hq]; rfl
     clear hst
     go_wp2
     go_still (by kernel_rfl)
     have HW2:=Lib.hid HW.out.drew
     go_wp2
     go_ret
     exact ⟨by rw [sameB_no HS3.out]; rfl,HW2.out⟩
   ·have HF:Hid (sameB xs ys=true):=(sameB_iff xs ys).2 (List.ext_getElem (by rw [HLA.out,HLB.out]) fun j h1 h2=>by
     have:=HD.out j (by rw [HLA.out] at h1; omega)
     simpa [List.getD,List.getElem?_eq_getElem h1,List.getElem?_eq_getElem h2] using this)
    go_wp2
    go_ret
    exact ⟨by rw [HF.out]; rfl,HW.out⟩
 ·have HF:Hid (sameB xs ys=false):=sameB_no fun h=>hab (by rw [← HLA.out,← HLB.out,h])
  have hq:((a:Int) == (b:Int))=false:=by simp; omega
  have hq2:((a:Int) != (b:Int))=true:=by simp; omega
  go_enter Tryz.func187,Tryz.ntmps187
  go_wp2
  go_ret
  exact ⟨by rw [HF.out]; rfl,Below.refl _ _⟩
theorem coreOf_any (a b c:Int) (x y:Value) (w:World) :
  Calls Tryz.prog 115 #[.agg #[.int .u64 a,.int .u64 b,.int .u64 c,x,y]] w fun e w'=>e=.returned (.agg #[.int .u64 a,.int .u64 b,.int .u64 c])∧Below w.heap.size w w':=by
 go_enter Tryz.func115,Tryz.ntmps115
 go_wp2
 exact bodyPost_ret (v:=.agg #[.int .u64 a,.int .u64 b,.int .u64 c]) (by simp [results,Tryz.results115,go_sem]) rfl ⟨rfl,((Below.refl _ _).alloc (Nat.le_refl _) _).alloc (by simp) _⟩
theorem same_parts (A1:Option Addr) (a1 c1:Nat) (xs1:List (List UInt8)) (A2:Option Addr) (a2 c2:Nat) (xs2:List (List UInt8)) (B1:Option Addr) (b1 d1:Nat) (ys1:List (List UInt8)) (B2:Option Addr) (b2 d2:Nat) (ys2:List (List UInt8)) (n0 n1 n2 m0 m1 m2:Nat) (w:World)
  (r1:SRow w A1 a1 xs1) (r2:SRow w A2 a2 xs2) (q1:SRow w B1 b1 ys1) (q2:SRow w B2 b2 ys2) (ha1:a1≤maxLen) (ha2:a2≤maxLen) (hb1:b1≤maxLen) (hb2:b2≤maxLen) :
  Calls Tryz.prog 132 #[.agg #[.int .u64 n0,.int .u64 n1,.int .u64 n2,.slice A1 a1 c1,.slice A2 a2 c2],.agg #[.int .u64 m0,.int .u64 m1,.int .u64 m2,.slice B1 b1 d1,.slice B2 b2 d2]] w fun e w'=>e=.returned (.bool (sameV ⟨n0,n1,n2,xs1,xs2⟩ ⟨m0,m1,m2,ys1,ys2⟩))∧Below w.heap.size w w':=by
 have R1:=Lib.hid r1
 have R2:=Lib.hid r2
 have Q1:=Lib.hid q1
 have Q2:=Lib.hid q2
 have HA1:=Lib.hid ha1
 have HA2:=Lib.hid ha2
 have HB1:=Lib.hid hb1
 have HB2s:=Lib.hid hb2
 clear r1 r2 q1 q2 ha1 ha2 hb1 hb2
 have HB0:Hid (Below w.heap.size w ((w.alloc (.cells #[.int .u64 n0,.int .u64 n1,.int .u64 n2,.slice A1 a1 c1,.slice A2 a2 c2] 34)).alloc (.cells #[.int .u64 m0,.int .u64 m1,.int .u64 m2,.slice B1 b1 d1,.slice B2 b2 d2] 34))):=((Below.refl _ _).alloc (Nat.le_refl _) _).alloc (by simp) _
 have HP1:Hid (At5 ((w.alloc (.cells #[.int .u64 n0,.int .u64 n1,.int .u64 n2,.slice A1 a1 c1,.slice A2 a2 c2] 34)).alloc (.cells #[.int .u64 m0,.int .u64 m1,.int .u64 m2,.slice B1 b1 d1,.slice B2 b2 d2] 34)) w.heap.size (.int .u64 n0) (.int .u64 n1) (.int .u64 n2) (.slice A1 a1 c1) (.slice A2 a2 c2)):=(At5.new w 34 _ _ _ _ _).kept ((Below.refl _ _).alloc (Nat.le_refl _) _) (by simp)
 have HP2:Hid (At5 ((w.alloc (.cells #[.int .u64 n0,.int .u64 n1,.int .u64 n2,.slice A1 a1 c1,.slice A2 a2 c2] 34)).alloc (.cells #[.int .u64 m0,.int .u64 m1,.int .u64 m2,.slice B1 b1 d1,.slice B2 b2 d2] 34)) (w.heap.size+1) (.int .u64 m0) (.int .u64 m1) (.int .u64 m2) (.slice B1 b1 d1) (.slice B2 b2 d2)):=by
  have:=At5.new (w.alloc (.cells #[.int .u64 n0,.int .u64 n1,.int .u64 n2,.slice A1 a1 c1,.slice A2 a2 c2] 34)) 34 (.int .u64 m0) (.int .u64 m1) (.int .u64 m2) (.slice B1 b1 d1) (.slice B2 b2 d2)
  rw [size_alloc] at this; exact this
 have HD:=Lib.hid ((Below.refl ((w.alloc (.cells #[.int .u64 n0,.int .u64 n1,.int .u64 n2,.slice A1 a1 c1,.slice A2 a2 c2] 34)).alloc (.cells #[.int .u64 m0,.int .u64 m1,.int .u64 m2,.slice B1 b1 d1,.slice B2 b2 d2] 34)).heap.size ((w.alloc (.cells #[.int .u64 n0,.int .u64 n1,.int .u64 n2,.slice A1 a1 c1,.slice A2 a2 c2] 34)).alloc (.cells #[.int .u64 m0,.int .u64 m1,.int .u64 m2,.slice B1 b1 d1,.slice B2 b2 d2] 34))).drew)
 have HDw:=Lib.hid (HD.out.mono (B':=w.heap.size) (by simp; omega))
 by_cases hn:n0=m0∧n1=m1∧n2=m2
 ·obtain ⟨rfl,rfl,rfl⟩:=hn
  have kq:=fun W=>run_eq3 n0 n1 n2 n0 n1 n2 W
  rw [show ((((n0:Int) == (n0:Int)) && (((n1:Int) == (n1:Int)) && ((n2:Int) == (n2:Int)))))=true by simp] at kq
  have HF:Hid (sameV ⟨n0,n1,n2,xs1,xs2⟩ ⟨n0,n1,n2,ys1,ys2⟩=(sameB xs1 ys1 && sameB xs2 ys2)):=by unfold Hid sameV; simp
  go_enter Tryz.func132,Tryz.ntmps132
  go_upto_region 1 with (fail)
  refine wp_region_held_drew (S:=fun w'=>(w'.cell? ⟨w.heap.size,0,none⟩=some (.int .u64 n0)∧w'.cell? ⟨w.heap.size,1,none⟩=some (.int .u64 n1)∧w'.cell? ⟨w.heap.size,2,none⟩=some (.int .u64 n2)∧w'.cell? ⟨w.heap.size,3,none⟩=some (.slice A1 a1 c1)∧w'.cell? ⟨w.heap.size,4,none⟩=some (.slice A2 a2 c2))∧(w'.cell? ⟨(w.heap.size+1),0,none⟩=some (.int .u64 n0)∧w'.cell? ⟨(w.heap.size+1),1,none⟩=some (.int .u64 n1)∧w'.cell? ⟨(w.heap.size+1),2,none⟩=some (.int .u64 n2)∧w'.cell? ⟨(w.heap.size+1),3,none⟩=some (.slice B1 b1 d1)∧w'.cell? ⟨(w.heap.size+1),4,none⟩=some (.slice B2 b2 d2))) (by kernel_rfl) ⟨HP1.out.2.2,HP2.out.2.2⟩ (fun hHeld=>?_)
  refine tk 0 rfl (.agg #[.int .u64 n0,.int .u64 n1,.int .u64 n2,.slice A1 a1 c1,.slice A2 a2 c2]) ?_
  refine tk 2 rfl (.agg #[.int .u64 n0,.int .u64 n1,.int .u64 n2,.slice B1 b1 d1,.slice B2 b2 d2]) ?_
  refine cl 1 rfl fun K hK=>?_
  go_simp
  refine (coreOf_any _ _ _ _ _ _).mono ?_
  rintro e w2 ⟨rfl,hb2⟩
  have HK1:=Lib.hid ((HP1.out.kept HD.out (by simp; omega)).kept hb2 (by simp; omega))
  have HK2:=Lib.hid ((HP2.out.kept HD.out (by simp)).kept hb2 (by simp))
  have HB2:=Lib.hid ((HB0.out.trans HDw.out).trans (hb2.mono (by simp; omega)))
  have hz2:w.heap.size+2≤w2.heap.size:=by have:=hb2.size; simpa using this
  clear hb2
  refine hK.out _ _ ⟨HK1.out.2.2,HK2.out.2.2⟩ (fun hHeld=>?_)
  clear hK K
  try simp only [Act.put,p1,p2,p3]
  refine cl 3 rfl fun K hK=>?_
  go_simp
  refine (coreOf_any _ _ _ _ _ _).mono ?_
  rintro e w3 ⟨rfl,hb3⟩
  have HM1:=Lib.hid (HK1.out.kept hb3 (by omega))
  have HM2:=Lib.hid (HK2.out.kept hb3 (by omega))
  have HB3:=Lib.hid (HB2.out.trans (hb3.mono (by omega)))
  have hz3:=hb3.size
  clear hb3
  refine hK.out _ _ ⟨HM1.out.2.2,HM2.out.2.2⟩ (fun hHeld=>?_)
  clear hK K
  try simp only [Act.put,p1,p2,p3]
  refine tk 4 rfl (.bool true) ?_
  refine tk 5 rfl (.bool true) ?_
  refine tk 6 rfl (.pointer (some ⟨w.heap.size,3,none⟩)) ?_
  refine tk 7 rfl (.slice A1 a1 c1) ?_
  refine tk 8 rfl (.pointer (some ⟨w.heap.size+1,3,none⟩)) ?_
  refine tk 9 rfl (.slice B1 b1 d1) ?_
  refine cl 10 rfl fun K hK=>?_
  go_simp
  refine (equal_any _ _ _ xs1 _ _ _ ys1 _ (R1.out.kept HB3.out) (Q1.out.kept HB3.out) HA1.out HB1.out).mono ?_
  rintro e w4 ⟨rfl,hb4⟩
  have HN1:=Lib.hid (HM1.out.kept hb4 (by omega))
  have HN2:=Lib.hid (HM2.out.kept hb4 (by omega))
  have HB4:=Lib.hid (HB3.out.trans (hb4.mono (by omega)))
  have hz4:=hb4.size
  clear hb4
  refine hK.out _ _ ⟨HN1.out.2.2,HN2.out.2.2⟩ (fun hHeld=>?_)
  clear hK K
  try simp only [Act.put,p1,p2,p3]
  generalize sameB xs1 ys1=s1 at HF ⊢
  cases s1
  ·refine tk 11 rfl (.bool false) ?_
   refine tk 12 rfl (.bool false) ?_
   refine sk 13 rfl ?_
   refine sk 14 rfl ?_
   refine sk 15 rfl ?_
   refine sk 16 rfl ?_
   refine sk 17 rfl ?_
   refine tk 18 rfl (.bool false) ?_
   refine tk 19 rfl (.bool false) ?_
   refine wpAnyH_done (by kernel_rfl) ?_ _
   go_wp2
   go_ret
   exact ⟨by rw [HF.out]; rfl,HB4.out⟩
  ·refine tk 11 rfl (.bool true) ?_
   refine tk 12 rfl (.bool true) ?_
   refine tk 13 rfl (.pointer (some ⟨w.heap.size,4,none⟩)) ?_
   refine tk 14 rfl (.slice A2 a2 c2) ?_
   refine tk 15 rfl (.pointer (some ⟨w.heap.size+1,4,none⟩)) ?_
   refine tk 16 rfl (.slice B2 b2 d2) ?_
   refine cl 17 rfl fun K hK=>?_
   go_simp
   refine (equal_any _ _ _ xs2 _ _ _ ys2 _ (R2.out.kept HB4.out) (Q2.out.kept HB4.out) HA2.out HB2s.out).mono ?_
   rintro e w5 ⟨rfl,hb5⟩
   have HO1:=Lib.hid (HN1.out.kept hb5 (by omega))
   have HO2:=Lib.hid (HN2.out.kept hb5 (by omega))
   have HB5:=Lib.hid (HB4.out.trans (hb5.mono (by omega)))
   clear hb5
   refine hK.out _ _ ⟨HO1.out.2.2,HO2.out.2.2⟩ (fun hHeld=>?_)
   clear hK K
   try simp only [Act.put,p1,p2,p3]
   refine tk 18 rfl (.bool (sameB xs2 ys2)) ?_
   refine tk 19 rfl (.bool (sameB xs2 ys2)) ?_
   refine wpAnyH_done (by kernel_rfl) ?_ _
   go_wp2
   go_ret
   exact ⟨by rw [HF.out]; rfl,HB5.out⟩
 ·have HF:Hid (sameV ⟨n0,n1,n2,xs1,xs2⟩ ⟨m0,m1,m2,ys1,ys2⟩=false):=by unfold Hid sameV; rw [decide_eq_false hn]; rfl
  have hq:(((n0:Int) == (m0:Int)) && (((n1:Int) == (m1:Int)) && ((n2:Int) == (m2:Int))))=false:=by
   rw [← Bool.not_eq_true]; simp only [Bool.and_eq_true,beq_iff_eq]; omega
  have kq:=fun W=>run_eq3 n0 n1 n2 m0 m1 m2 W
  rw [hq] at kq
  clear hn hq
  go_enter Tryz.func132,Tryz.ntmps132
  go_upto_region 1 with (fail)
  refine wp_region_held_drew (S:=fun w'=>(w'.cell? ⟨w.heap.size,0,none⟩=some (.int .u64 n0)∧w'.cell? ⟨w.heap.size,1,none⟩=some (.int .u64 n1)∧w'.cell? ⟨w.heap.size,2,none⟩=some (.int .u64 n2)∧w'.cell? ⟨w.heap.size,3,none⟩=some (.slice A1 a1 c1)∧w'.cell? ⟨w.heap.size,4,none⟩=some (.slice A2 a2 c2))∧(w'.cell? ⟨(w.heap.size+1),0,none⟩=some (.int .u64 m0)∧w'.cell? ⟨(w.heap.size+1),1,none⟩=some (.int .u64 m1)∧w'.cell? ⟨(w.heap.size+1),2,none⟩=some (.int .u64 m2)∧w'.cell? ⟨(w.heap.size+1),3,none⟩=some (.slice B1 b1 d1)∧w'.cell? ⟨(w.heap.size+1),4,none⟩=some (.slice B2 b2 d2))) (by kernel_rfl) ⟨HP1.out.2.2,HP2.out.2.2⟩ (fun hHeld=>?_)
  refine tk 0 rfl (.agg #[.int .u64 n0,.int .u64 n1,.int .u64 n2,.slice A1 a1 c1,.slice A2 a2 c2]) ?_
  refine tk 2 rfl (.agg #[.int .u64 m0,.int .u64 m1,.int .u64 m2,.slice B1 b1 d1,.slice B2 b2 d2]) ?_
  refine cl 1 rfl fun K hK=>?_
  go_simp
  refine (coreOf_any _ _ _ _ _ _).mono ?_
  rintro e w2 ⟨rfl,hb2⟩
  have HK1:=Lib.hid ((HP1.out.kept HD.out (by simp; omega)).kept hb2 (by simp; omega))
  have HK2:=Lib.hid ((HP2.out.kept HD.out (by simp)).kept hb2 (by simp))
  have HB2:=Lib.hid ((HB0.out.trans HDw.out).trans (hb2.mono (by simp; omega)))
  have hz2:w.heap.size+2≤w2.heap.size:=by have:=hb2.size; simpa using this
  clear hb2
  refine hK.out _ _ ⟨HK1.out.2.2,HK2.out.2.2⟩ (fun hHeld=>?_)
  clear hK K
  try simp only [Act.put,p1,p2,p3]
  refine cl 3 rfl fun K hK=>?_
  go_simp
  refine (coreOf_any _ _ _ _ _ _).mono ?_
  rintro e w3 ⟨rfl,hb3⟩
  have HM1:=Lib.hid (HK1.out.kept hb3 (by omega))
  have HM2:=Lib.hid (HK2.out.kept hb3 (by omega))
  have HB3:=Lib.hid (HB2.out.trans (hb3.mono (by omega)))
  have hz3:=hb3.size
  clear hb3
  refine hK.out _ _ ⟨HM1.out.2.2,HM2.out.2.2⟩ (fun hHeld=>?_)
  clear hK K
  try simp only [Act.put,p1,p2,p3]
  refine tk 4 rfl (.bool false) ?_
  refine tk 5 rfl (.bool false) ?_
  refine sk 6 rfl ?_
  refine sk 7 rfl ?_
  refine sk 8 rfl ?_
  refine sk 9 rfl ?_
  refine sk 10 rfl ?_
  refine tk 11 rfl (.bool false) ?_
  refine tk 12 rfl (.bool false) ?_
  refine sk 13 rfl ?_
  refine sk 14 rfl ?_
  refine sk 15 rfl ?_
  refine sk 16 rfl ?_
  refine sk 17 rfl ?_
  refine tk 18 rfl (.bool false) ?_
  refine tk 19 rfl (.bool false) ?_
  refine wpAnyH_done (by kernel_rfl) ?_ _
  go_wp2
  go_ret
  exact ⟨by rw [HF.out]; rfl,HB3.out⟩
end Go.Proofs.YtnpjklaaokiikaaGreatDoor.Semver
