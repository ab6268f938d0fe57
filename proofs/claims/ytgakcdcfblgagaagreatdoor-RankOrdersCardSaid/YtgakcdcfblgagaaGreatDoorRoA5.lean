/-
  What the theorem of the last text needs of these: SvPlain, IdWalks, IdCmp, IdRefGood, IdRefCmp, RgMath. Conditions: as each theorem states.
-/
import Derived.Test.YtgakcdcfblgagaaGreatDoorRoA1
import Derived.Test.YtgakcdcfblgagaaGreatDoorRoA2
import Derived.Test.YtgakcdcfblgagaaGreatDoorRoA3
import Derived.Test.YtgakcdcfblgagaaGreatDoorRoA4
import Derived.Lib.ItoaLen
import Derived.Test.YtgakcdcfblgagaaGreatDoorShelfTrim
import Derived.StillTailTactics
set_option maxRecDepth 100000
set_option maxHeartbeats 25600000
namespace Go.Proofs.YtgakcdcfblgagaaGreatDoor.Semver
open Go.RowKit Num Ident

def heldB (x y z:Nat):Bool:=decide (x≤maxField∧y≤maxField∧z≤maxField)
theorem heldB_yes {x y z:Nat} (hx:x≤maxField) (hy:y≤maxField) (hz:z≤maxField):heldB x y z=true:=decide_eq_true ⟨hx,hy,hz⟩
theorem heldB_no {x y z:Nat} (h:¬ (x≤maxField∧y≤maxField∧z≤maxField)):heldB x y z=false:=decide_eq_false h
def goodV (v:Ver):Bool:=heldB v.a v.b v.c && (goodFrom true v.pre 0 && goodFrom false v.build 0)
theorem field_le {x:Nat} (h:(x:Int)≤9223372036854775807):x≤maxField:=by unfold maxField; omega
theorem field_no {x:Nat} (h:¬ (x:Int)≤9223372036854775807):¬ x≤maxField:=by unfold maxField; omega
def sameV (u v:Ver):Bool:=decide (u.a=v.a∧u.b=v.b∧u.c=v.c) && (sameB u.pre v.pre && sameB u.build v.build)
theorem sameV_self (v:Ver):sameV v v=true:=by unfold sameV; rw [(sameB_iff _ _).2 rfl,(sameB_iff _ _).2 rfl]; simp
def rowText (m:UInt8) (xs:List (List UInt8)):List UInt8:=if xs.length=0 then [] else m :: joined xs
def vtext (v:Ver):List UInt8:=Lib.decDigits v.a ++ [46] ++ Lib.decDigits v.b ++ [46] ++ Lib.decDigits v.c ++ rowText 45 v.pre ++ rowText 43 v.build
theorem rowText_none {m:UInt8} {xs:List (List UInt8)} (h:xs.length=0):rowText m xs=[]:=by unfold rowText; rw [if_pos h]
theorem rowText_some {m:UInt8} {xs:List (List UInt8)} (h:xs.length≠0):rowText m xs=[m] ++ joined xs:=by unfold rowText; rw [if_neg h]; rfl
theorem short_joined {xs:List (List UInt8)} (h:shortB xs=true):(joined xs).length≤12040:=by
 rw [shortB_iff] at h
 have:=joined_le xs h.2
 omega
theorem rowText_le {m:UInt8} {xs:List (List UInt8)} (h:shortB xs=true):(rowText m xs).length≤12041:=by
 unfold rowText
 split
 ·simp
 ·have:=short_joined h
  simp; exact this
theorem dec_le (u:Nat) (h:u<18446744073709551616):(Lib.decDigits u).length≤20:=by rw [Lib.decDigits_length]; exact Lib.nDigits_le20 u h
theorem held_not1 {x y z:Nat} (h:¬ (x:Int)<9223372036854775808):heldB x y z=false:=heldB_no fun hh=>h (by have:=hh.1; unfold maxField at this; omega)
theorem held_not2 {x y z:Nat} (h:¬ (y:Int)<9223372036854775808):heldB x y z=false:=heldB_no fun hh=>h (by have:=hh.2.1; unfold maxField at this; omega)
theorem held_not3 {x y z:Nat} (h:¬ (z:Int)<9223372036854775808):heldB x y z=false:=heldB_no fun hh=>h (by have:=hh.2.2; unfold maxField at this; omega)
theorem held_all {x y z:Nat} (h1:(x:Int)<9223372036854775808) (h2:(y:Int)<9223372036854775808) (h3:(z:Int)<9223372036854775808):heldB x y z=true :=
 heldB_yes (by unfold maxField; omega) (by unfold maxField; omega) (by unfold maxField; omega)
theorem sameV_no {u v:Ver} (h:¬ (u.a=v.a∧u.b=v.b∧u.c=v.c)):sameV u v=false:=by unfold sameV; rw [decide_eq_false h]; rfl
end Go.Proofs.YtgakcdcfblgagaaGreatDoor.Semver
namespace Go.Proofs.YtgakcdcfblgagaaGreatDoor.Ident
open Go.RowKit Num

theorem letter_any (x:Int) (w:World) (h0:0≤x) (h1:x≤255) :
  Calls Tryz.prog 269 #[.int .u8 x] w fun e w'=>e=.returned (.bool (letB x))∧w=w':=by
 by_cases ha:65≤x
 ·by_cases hb:x≤90
  ·have HF:=Lib.hid (letB_yes (.inl ⟨ha,hb⟩))
   go_enter Tryz.func269,Tryz.ntmps269
   go_wp2
   go_ret
   exact ⟨by rw [HF.out]; rfl,rfl⟩
  ·by_cases hc:97≤x
   ·by_cases hd:x≤122
    ·have HF:=Lib.hid (letB_yes (.inr ⟨hc,hd⟩))
     go_enter Tryz.func269,Tryz.ntmps269
     go_wp2
     go_ret
     exact ⟨by rw [HF.out]; rfl,rfl⟩
    ·have HF:=Lib.hid (letB_no (x:=x) (by omega))
     go_enter Tryz.func269,Tryz.ntmps269
     go_wp2
     go_ret
     exact ⟨by rw [HF.out]; rfl,rfl⟩
   ·have HF:=Lib.hid (letB_no (x:=x) (by omega))
    go_enter Tryz.func269,Tryz.ntmps269
    go_wp2
    go_ret
    exact ⟨by rw [HF.out]; rfl,rfl⟩
 ·have hc:¬ 97≤x:=by omega
  have HF:=Lib.hid (letB_no (x:=x) (by omega))
  go_enter Tryz.func269,Tryz.ntmps269
  go_wp2
  go_ret
  exact ⟨by rw [HF.out]; rfl,rfl⟩
def LenJ (w:World) (A:Option Addr) (n c:Nat) (l:List UInt8) (a':Act) (w':World):Prop :=
 w=w'∧∃ (k:Nat) (u4 u5 u6 u7 u8 u9 u10 u11 u12 u13 u14 u15 u16 u17 u18 u19 u20 u21 u22 u23 u24 u25 u26 u27 u28 u29 u30 u31:Value),k≤n∧(∀ j,j<k→isId (l.getD j 0)=true)∧a'={ tmps:=#[.slice A n c,undef,.int .i64 0,.int .i64 k,u4,u5,u6,u7,u8,u9,u10,u11,u12,u13,u14,u15,u16,u17,u18,u19,u20,u21,u22,u23,u24,u25,u26,u27,u28,u29,u30,u31],defers:=[] }
def LenM (n:Nat) (a':Act) (_:World):Nat:=n - (intOf (a'.tmps.getD 3 undef)).toNat
theorem length_any (A:Option Addr) (n c:Nat) (l:List UInt8) (w:World) (h:Row w A n l) :
  Calls Tryz.prog 239 #[.slice A n c] w fun e w'=>e=.returned (.int .i64 (lead l))∧w=w':=by
 obtain ⟨hl,hm,hc⟩:=h
 unfold maxLen at hm
 have HC:=Lib.hid hc; clear hc
 have HL:=Lib.hid hl; clear hl
 go_enter Tryz.func239,Tryz.ntmps239
 go_wp2
 refine wp_scope_back 0 (LenJ w A n c l) (LenM n) rfl ?_ ?_
 ·rintro a' w' ⟨rfl,k,u4,u5,u6,u7,u8,u9,u10,u11,u12,u13,u14,u15,u16,u17,u18,u19,u20,u21,u22,u23,u24,u25,u26,u27,u28,u29,u30,u31,hk,hd,rfl⟩
  have HD:=Lib.hid hd; clear hd
  by_cases hlt:k<n
  ·obtain ⟨b,o,rfl,hb,hcell⟩:=HC.out (by omega)
   have hx:=hcell k hlt
   clear hcell HC
   have hbd:=byteAt_bd l k
   have HI:Hid (isId (l.getD k 0)=idB (byteAt l k)):=(idB_at _).symm
   generalize byteAt l k=x at hx hbd HI
   obtain ⟨hx0,hx1⟩:=hbd
   have HN:Hid (idB x=true→∀ j,j<k+1→isId (l.getD j 0)=true):=fun hi j hj=>by
    rcases Nat.lt_or_ge j k with hj1 | hj1
    ·exact HD.out j hj1
    ·obtain rfl:j=k:=by omega
     rw [HI.out]; exact hi
   have HS:Hid (idB x=false→lead l=k):=fun hn=>lead_stop l k (by rw [HL.out]; omega) HD.out (.inr (by rw [HI.out]; exact hn))
   go_wp2_with fail
   refine (digit_any _ _ hx0 hx1).mono ?_
   rintro e w' ⟨rfl,rfl⟩
   cases h1:digB x
   ·have H1:=Lib.hid h1; clear h1
    go_wp2_with fail
    refine (letter_any _ _ hx0 hx1).mono ?_
    rintro e w' ⟨rfl,rfl⟩
    cases h2:letB x
    ·have H2:=Lib.hid h2; clear h2
     by_cases h3:x=45
     ·have hb3:(x == 45)=true:=by simp [h3]
      have H3:=Lib.hid hb3
      have H4:=Lib.hid h3; clear h3
      go_wp2
      go_step3
      rw [show ((k:Int)+1)=((k+1:Nat):Int) from rfl]
      refine ⟨rfl,⟨rfl,k+1,_,_,_,_,_,_,_,_,_,_,_,_,_,_,_,_,_,_,_,_,_,_,_,_,_,_,_,_,by omega,HN.out (by unfold idB; rw [H3.out]; simp),rfl⟩,?_⟩
      simp [LenM,intOf]; omega
     ·have hb3:(x == 45)=false:=by simp [h3]
      have H3:=Lib.hid hb3
      clear h3
      go_wp2
      simp only [Exit.jump]
      go_ret
      exact ⟨ret_int (by rw [HS.out (by unfold idB; rw [H1.out,H2.out,H3.out]; rfl)]),rfl⟩
    ·have H2:=Lib.hid h2; clear h2
     go_wp2
     go_step3
     rw [show ((k:Int)+1)=((k+1:Nat):Int) from rfl]
     refine ⟨rfl,⟨rfl,k+1,_,_,_,_,_,_,_,_,_,_,_,_,_,_,_,_,_,_,_,_,_,_,_,_,_,_,_,_,by omega,HN.out (by unfold idB; rw [H2.out]; simp),rfl⟩,?_⟩
     simp [LenM,intOf]; omega
   ·have H1:=Lib.hid h1; clear h1
    go_wp2
    go_step3
    rw [show ((k:Int)+1)=((k+1:Nat):Int) from rfl]
    refine ⟨rfl,⟨rfl,k+1,_,_,_,_,_,_,_,_,_,_,_,_,_,_,_,_,_,_,_,_,_,_,_,_,_,_,_,_,by omega,HN.out (by unfold idB; rw [H1.out]; rfl),rfl⟩,?_⟩
    simp [LenM,intOf]; omega
  ·have HS:Hid (lead l=k):=lead_stop l k (by rw [HL.out]; omega) HD.out (.inl (by rw [HL.out]; omega))
   go_wp2
   simp only [Exit.jump]
   go_ret
   exact ⟨ret_int (by rw [HS.out]),rfl⟩
 ·intro HP
  go_wp2
  go_step3
  rename_i hK
  exact hK _ _ (HP.out _ _ ⟨rfl,0,_,_,_,_,_,_,_,_,_,_,_,_,_,_,_,_,_,_,_,_,_,_,_,_,_,_,_,_,by omega,(fun j hj=>by omega),rfl⟩)
theorem fault_any (s:ByteArray) (i:Nat) (pre:Bool) (w:World) (hs:s.size≤maxLen) (hi:i≤maxLen) :
  Calls Tryz.prog 238 #[.string s,.int .i64 i,.bool pre] w fun e w'=>e=.returned (.int .i64 (fault s.data.toList i pre))∧Below w.heap.size w w':=by
 have HS:=Lib.hid hs
 unfold maxLen at hs hi
 have HL:=Lib.hid (Lib.size_eq s)
 by_cases h0:s.size=0
 ·have HF:=Lib.hid (fault_5 (s:=s.data.toList) i pre (by rw [← HL.out]; exact h0))
  have hem:=(empty_iff s).2 h0
  have H0:=Lib.hid h0; clear h0
  go_enter Tryz.func238,Tryz.ntmps238
  go_wp2
  go_ret
  exact ⟨by rw [HF.out]; rfl,Below.refl _ _⟩
 ·have hem:=(empty_no s).2 h0
  have H0:Hid (s.data.toList.length≠0):=by unfold Hid; rw [← HL.out]; exact h0
  clear h0
  by_cases h1:255<s.size
  ·have HF:=Lib.hid (fault_4 (s:=s.data.toList) (i:=i) pre H0.out (.inl (by rw [← HL.out]; exact h1)))
   go_enter Tryz.func238,Tryz.ntmps238
   go_wp2
   go_ret
   exact ⟨by rw [HF.out]; rfl,Below.refl _ _⟩
  ·by_cases h2:16≤i
   ·have HF:=Lib.hid (fault_4 (s:=s.data.toList) (i:=i) pre H0.out (.inr h2))
    go_enter Tryz.func238,Tryz.ntmps238
    go_wp2
    go_ret
    exact ⟨by rw [HF.out]; rfl,Below.refl _ _⟩
   ·have H12:Hid (¬ (255<s.data.toList.length∨16≤i)):=by unfold Hid; rw [← HL.out]; omega
    cases pre
    ·have HF:=Lib.hid (fault_0 (s:=s.data.toList) (i:=i) (pre:=false) H0.out H12.out (by simp))
     go_enter Tryz.func238,Tryz.ntmps238
     go_wp2
     go_ret
     exact ⟨by rw [HF.out]; rfl,Below.refl _ _⟩
    ·cases h3:numeric s.data.toList
     ·have HF:=Lib.hid (fault_0 (s:=s.data.toList) (i:=i) (pre:=true) H0.out H12.out (by simp [h3]))
      have H3:=Lib.hid h3; clear h3
      go_enter Tryz.func238,Tryz.ntmps238
      go_wp2_with fail
      refine (numeric_any s _ HS.out).mono ?_
      rintro e w' ⟨rfl,rfl⟩
      rw [H3.out]
      go_wp2
      go_ret
      exact ⟨by rw [HF.out]; rfl,Below.refl _ _⟩
     ·cases h4:isNum s.data.toList
      ·have HF:=Lib.hid (fault_3 (s:=s.data.toList) (i:=i) (pre:=true) H0.out H12.out ⟨rfl,h3,h4⟩)
       have H3:=Lib.hid h3; clear h3
       have H4:=Lib.hid h4; clear h4
       go_enter Tryz.func238,Tryz.ntmps238
       go_wp2_with fail
       refine (numeric_any s _ HS.out).mono ?_
       rintro e w' ⟨rfl,rfl⟩
       rw [H3.out]
       go_wp2_with fail
       refine (is_any s _ HS.out).mono ?_
       rintro e w1 ⟨rfl,hb1⟩
       rw [H4.out]
       go_wp2
       go_ret
       exact ⟨by rw [HF.out]; rfl,hb1⟩
      ·have HF:=Lib.hid (fault_0 (s:=s.data.toList) (i:=i) (pre:=true) H0.out H12.out (by simp [h4]))
       have H3:=Lib.hid h3; clear h3
       have H4:=Lib.hid h4; clear h4
       go_enter Tryz.func238,Tryz.ntmps238
       go_wp2_with fail
       refine (numeric_any s _ HS.out).mono ?_
       rintro e w' ⟨rfl,rfl⟩
       rw [H3.out]
       go_wp2_with fail
       refine (is_any s _ HS.out).mono ?_
       rintro e w1 ⟨rfl,hb1⟩
       rw [H4.out]
       go_wp2
       go_ret
       exact ⟨by rw [HF.out]; rfl,hb1⟩
end Go.Proofs.YtgakcdcfblgagaaGreatDoor.Ident
namespace Go.Proofs.YtgakcdcfblgagaaGreatDoor.Ident
open Go.RowKit Num

theorem trim_le (l:List UInt8):(Lib.trimLeftB l 48).length≤l.length:=(List.dropWhile_sublist _).length_le

theorem numeral_any (s:ByteArray) (w:World) :
  Calls Tryz.prog 244 #[.string s] w fun e w'=>e=.returned (.string (mk (numeral s.data.toList)))∧w=w':=by
 obtain ⟨t,ht⟩:∃ t:ByteArray,(⟨(Lib.trimLeftB s.data.toList 48).toArray⟩:ByteArray)=t:=⟨_,rfl⟩
 have HT:=Lib.hid ht
 have hz:t.size=(Lib.trimLeftB s.data.toList 48).length:=by rw [← ht]; rfl
 have HK:Hid (∀ W,Calls Tryz.prog 270 #[.string s,.string ⟨#[48]⟩] W fun e w'=>e=.returned (.string t)∧w'=W):=fun W=>by
  have:=Tryz.strings_TrimLeft_one s 48 (by decide) W
  rw [ht] at this
  exact this
 clear ht
 by_cases h0:t.size=0
 ·have HF:Hid (numeral s.data.toList=[48]):=by unfold Hid numeral; rw [if_pos (by rw [← hz]; exact h0)]
  have hem:=(empty_iff t).2 h0
  clear h0 hz
  go_enter Tryz.func244,Tryz.ntmps244
  go_wp2_with fail
  refine (HK.out _).mono ?_
  rintro e w' ⟨rfl,rfl⟩
  go_wp2
  go_ret
  exact ⟨by rw [HF.out]; rfl,rfl⟩
 ·have HF:Hid (numeral s.data.toList=Lib.trimLeftB s.data.toList 48):=by unfold Hid numeral; rw [if_neg (by rw [← hz]; exact h0)]
  have hem:=(empty_no t).2 h0
  clear h0 hz
  go_enter Tryz.func244,Tryz.ntmps244
  go_wp2_with fail
  refine (HK.out _).mono ?_
  rintro e w' ⟨rfl,rfl⟩
  go_wp2
  go_ret
  exact ⟨by rw [HF.out,← HT.out]; rfl,rfl⟩

theorem numeral_le (l:List UInt8) (h:0<l.length):(numeral l).length≤l.length:=by
 unfold numeral
 split
 ·simp; omega
 ·exact trim_le l

theorem numbers_anyD (s t:ByteArray) (w:World) (hs:s.size≤maxLen) (ht:t.size≤maxLen) (ha:numeric s.data.toList=true) (hb:numeric t.data.toList=true) :
  Calls Tryz.prog 210 #[.string s,.string t] w fun e w'=>e=.returned (.int .i64 (cmpId s.data.toList t.data.toList))∧BelowD w.heap.size w w':=by
 have HF:Hid (cmpId s.data.toList t.data.toList=if ordN (val s.data.toList) (val t.data.toList)=0 then ordN s.data.toList.length t.data.toList.length else ordN (val s.data.toList) (val t.data.toList)):=by
  unfold Hid cmpId; rw [if_pos ha,if_pos hb]
 have HL:=Lib.hid (Lib.size_eq s)
 have HM:=Lib.hid (Lib.size_eq t)
 rw [numeric_iff] at ha hb
 have z1:(mk (numeral s.data.toList)).size≤maxLen:=by have:=numeral_le _ ha.1; rw [mk_size]; rw [HL.out] at hs; omega
 have z2:(mk (numeral t.data.toList)).size≤maxLen:=by have:=numeral_le _ hb.1; rw [mk_size]; rw [HM.out] at ht; omega
 have HC:Hid (∀ W,Calls Tryz.prog 243 #[.string (mk (numeral s.data.toList)),.string (mk (numeral t.data.toList))] W fun e w'=>e=.returned (.int .i64 (ordN (val s.data.toList) (val t.data.toList)))∧BelowD W.heap.size W w'):=fun W=>by
  have:=Num.compare_anyD (mk (numeral s.data.toList)) (mk (numeral t.data.toList)) W z1 z2
  rw [mk_list,mk_list,cmpNum_yes (numeral_num (all_of_run ha.2)) (numeral_num (all_of_run hb.2)),numeral_val,numeral_val] at this
  exact this
 clear z1 z2 ha hb
 unfold maxLen at hs ht
 generalize val s.data.toList=x at HC HF
 generalize val t.data.toList=y at HC HF
 rw [← HL.out,← HM.out] at HF
 rcases ordN_cases x y with ⟨_,e⟩ | ⟨_,e⟩ | ⟨_,e⟩
 ·rw [e] at HC HF
  have HF2:Hid (cmpId s.data.toList t.data.toList=-1):=by have:=HF.out; rwa [if_neg (by omega)] at this
  clear e HF
  go_enter Tryz.func210,Tryz.ntmps210
  go_wp2_with fail
  refine (numeral_any s _).mono ?_
  rintro e w' ⟨rfl,rfl⟩
  go_wp2_with fail
  refine (numeral_any t _).mono ?_
  rintro e w' ⟨rfl,rfl⟩
  go_wp2_with fail
  refine (HC.out _).mono ?_
  rintro e w1 ⟨rfl,hb1⟩
  go_wp2
  go_ret
  exact ⟨by rw [HF2.out]; rfl,hb1⟩
 ·rw [e] at HC HF
  have HF2:Hid (cmpId s.data.toList t.data.toList=ordN s.size t.size):=by have:=HF.out; rwa [if_pos rfl] at this
  clear e HF
  go_enter Tryz.func210,Tryz.ntmps210
  go_wp2_with fail
  refine (numeral_any s _).mono ?_
  rintro e w' ⟨rfl,rfl⟩
  go_wp2_with fail
  refine (numeral_any t _).mono ?_
  rintro e w' ⟨rfl,rfl⟩
  go_wp2_with fail
  refine (HC.out _).mono ?_
  rintro e w1 ⟨rfl,hb1⟩
  go_wp2_with fail
  refine (cmp_any _ _ _).mono ?_
  rintro e w' ⟨rfl,rfl⟩
  go_wp2
  go_ret
  exact ⟨by rw [HF2.out]; rfl,hb1⟩
 ·rw [e] at HC HF
  have HF2:Hid (cmpId s.data.toList t.data.toList=1):=by have:=HF.out; rwa [if_neg (by omega)] at this
  clear e HF
  go_enter Tryz.func210,Tryz.ntmps210
  go_wp2_with fail
  refine (numeral_any s _).mono ?_
  rintro e w' ⟨rfl,rfl⟩
  go_wp2_with fail
  refine (numeral_any t _).mono ?_
  rintro e w' ⟨rfl,rfl⟩
  go_wp2_with fail
  refine (HC.out _).mono ?_
  rintro e w1 ⟨rfl,hb1⟩
  go_wp2
  go_ret
  exact ⟨by rw [HF2.out]; rfl,hb1⟩

theorem cmpId_left {a b:List UInt8} (ha:numeric a=true) (hb:numeric b=false):cmpId a b=-1:=by
 unfold cmpId; rw [if_pos ha,if_neg (by simp [hb])]
theorem cmpId_right {a b:List UInt8} (ha:numeric a=false) (hb:numeric b=true):cmpId a b=1:=by
 unfold cmpId; rw [if_neg (by simp [ha]),if_pos hb]
theorem cmpId_none {a b:List UInt8} (ha:numeric a=false) (hb:numeric b=false):cmpId a b=Lib.compareBytes a b:=by
 unfold cmpId; rw [if_neg (by simp [ha]),if_neg (by simp [hb])]

theorem idcmp_anyD (s t:ByteArray) (w:World) (hs:s.size≤maxLen) (ht:t.size≤maxLen) :
  Calls Tryz.prog 172 #[.string s,.string t] w fun e w'=>e=.returned (.int .i64 (cmpId s.data.toList t.data.toList))∧BelowD w.heap.size w w':=by
 have HS:=Lib.hid hs; clear hs
 have HT:=Lib.hid ht; clear ht
 cases ha:numeric s.data.toList
 ·cases hb:numeric t.data.toList
  ·have HF:=Lib.hid (cmpId_none ha hb)
   have HA:=Lib.hid ha; clear ha
   have HB:=Lib.hid hb; clear hb
   go_enter Tryz.func172,Tryz.ntmps172
   go_wp2_with fail
   refine (numeric_any s _ HS.out).mono ?_
   rintro e w' ⟨rfl,rfl⟩
   rw [HA.out]
   go_wp2_with fail
   refine (numeric_any t _ HT.out).mono ?_
   rintro e w' ⟨rfl,rfl⟩
   rw [HB.out]
   go_wp2_with fail
   refine (strcmp_any _ _ _).mono ?_
   rintro e w' ⟨rfl,rfl⟩
   go_wp2
   go_ret
   exact ⟨by rw [HF.out]; rfl,BelowD.refl _ _⟩
  ·have HF:=Lib.hid (cmpId_right ha hb)
   have HA:=Lib.hid ha; clear ha
   have HB:=Lib.hid hb; clear hb
   go_enter Tryz.func172,Tryz.ntmps172
   go_wp2_with fail
   refine (numeric_any s _ HS.out).mono ?_
   rintro e w' ⟨rfl,rfl⟩
   rw [HA.out]
   go_wp2_with fail
   refine (numeric_any t _ HT.out).mono ?_
   rintro e w' ⟨rfl,rfl⟩
   rw [HB.out]
   go_wp2
   go_ret
   exact ⟨by rw [HF.out]; rfl,BelowD.refl _ _⟩
 ·cases hb:numeric t.data.toList
  ·have HF:=Lib.hid (cmpId_left ha hb)
   have HA:=Lib.hid ha; clear ha
   have HB:=Lib.hid hb; clear hb
   go_enter Tryz.func172,Tryz.ntmps172
   go_wp2_with fail
   refine (numeric_any s _ HS.out).mono ?_
   rintro e w' ⟨rfl,rfl⟩
   rw [HA.out]
   go_wp2_with fail
   refine (numeric_any t _ HT.out).mono ?_
   rintro e w' ⟨rfl,rfl⟩
   rw [HB.out]
   go_wp2
   go_ret
   exact ⟨by rw [HF.out]; rfl,BelowD.refl _ _⟩
  ·have HC:=Lib.hid (fun W=>numbers_anyD s t W HS.out HT.out ha hb)
   have HA:=Lib.hid ha; clear ha
   have HB:=Lib.hid hb; clear hb
   go_enter Tryz.func172,Tryz.ntmps172
   go_wp2_with fail
   refine (numeric_any s _ HS.out).mono ?_
   rintro e w' ⟨rfl,rfl⟩
   rw [HA.out]
   go_wp2_with fail
   refine (numeric_any t _ HT.out).mono ?_
   rintro e w' ⟨rfl,rfl⟩
   rw [HB.out]
   go_wp2_with fail
   refine (HC.out _).mono ?_
   rintro e w1 ⟨rfl,hb1⟩
   go_wp2
   go_ret
   exact ⟨rfl,hb1⟩
end Go.Proofs.YtgakcdcfblgagaaGreatDoor.Ident
namespace Go.Proofs.YtgakcdcfblgagaaGreatDoor.Ident
open Go.RowKit Num

theorem lead_no {x:List UInt8} {j:Nat} (hj:j<x.length) (h:isId (x.getD j 0)=false):lead x≠x.length:=by
 intro e
 have:=lead_full.1 e (x.getD j 0) (by simp [List.getD,List.getElem?_eq_getElem hj])
 rw [h] at this; cases this
theorem lead_yes {x:List UInt8} (h:∀ j,j<x.length→isId (x.getD j 0)=true):lead x=x.length :=
 lead_stop x x.length (Nat.le_refl _) h (.inl rfl)
theorem ref_good_all (A:Option Addr) (n c:Nat) (xs:List (List UInt8)) (pre:Bool) (w:World) (hr:SRow w A n xs) (hn:n≤maxLen) (hs:∀ x ∈ xs,x.length≤maxLen) :
  Calls Tryz.prog 71 #[.slice A n c,.bool pre] w fun e w'=>e=.returned (.bool (goodFrom pre xs 0))∧w=w':=by
 have HR:=Lib.hid hr
 have HL:=Lib.hid hr.1
 have HS:=Lib.hid hs
 have HM:=Lib.hid hn
 unfold maxLen at hn
 clear hr hs
 go_enter Tryz.func71,Tryz.ntmps71
 go_wp2
 go_loop [5] (fun i=>∃ k:Nat,k≤n∧i=.int .i64 k∧Hid (goodFrom pre (xs.drop k) k=goodFrom pre xs 0)) (fun i=>n - (intOf i).toNat)
 case atStart=>exact ⟨0,Nat.zero_le _,rfl,rfl⟩
 case round =>
  obtain ⟨k,hk,rfl,HG⟩:=hrel
  by_cases hlt:k<n
  ·obtain ⟨b,o,rfl,hb,hcell⟩:=HR.out.2 (by omega)
   have hx:=hcell k hlt
   clear hcell
   have HKL:Hid (k<xs.length):=by unfold Hid; rw [HL.out]; exact hlt
   have hlx:(xs.getD k []).length≤maxLen:=HS.out _ (by have h:=HKL.out; simp [List.getD,List.getElem?_eq_getElem h])
   have HST:=Lib.hid (fun h1 h2=>goodFrom_step (pre:=pre) HKL.out h1 h2)
   have HSP:=Lib.hid (fun h=>goodFrom_stop (pre:=pre) HKL.out h)
   generalize xs.getD k []=s at hx hlx HST HSP
   go_wp2_with fail
   refine (wrong_all (mk s) k pre _ (by rw [mk_size]; exact hlx) (by unfold maxLen; omega)).mono ?_
   rw [mk_list]
   rintro e w' ⟨rfl,rfl⟩
   have HFP:Hid (fault s k pre=0→s.length≤255):=fun h=>(fault_pos h).2.1
   generalize fault s k pre=f at HST HSP HFP
   by_cases hf0:f=0
   ·subst hf0
    have HST2:=Lib.hid (HST.out rfl)
    clear HST
    have hz:(mk s).size≤300:=Nat.le_trans (HFP.out rfl) (by omega)
    clear hlx HFP
    go_wp2
    go_loop [6] (fun j=>∃ m:Nat,m≤(mk s).size∧j=.int .i64 m∧Hid (∀ j,j<m→isId (s.getD j 0)=true)) (fun j=>(mk s).size - (intOf j).toNat)
    case atStart=>exact ⟨0,Nat.zero_le _,rfl,fun j hj=>by omega⟩
    case round =>
     obtain ⟨m,hm,rfl,HD⟩:=hrel
     by_cases hml:m<(mk s).size
     ·have HX:=Lib.hid (at_text (mk s) m hml)
      have hbd:=byteAt_bd s m
      have HI:Hid (isId (s.getD m 0)=idB (byteAt s m)):=(idB_at _).symm
      rw [mk_list] at HX
      rw [← HX.out] at hbd HI
      obtain ⟨hx0,hx1⟩:=hbd
      go_wp2_with fail
      refine (ref_byte_any _ _ hx0 hx1).mono ?_
      rintro e w' ⟨rfl,rfl⟩
      cases h1:idB ((mk s)[m].toNat:Int)
      ·have HF:Hid (goodFrom pre xs 0=false):=by
        unfold Hid
        rw [← HG.out]
        exact HSP.out (.inr (lead_no hml (by rw [HI.out]; exact h1)))
       have H1:=Lib.hid h1; clear h1
       go_wp2
       go_ret
       exact ⟨by rw [HF.out]; rfl,rfl⟩
      ·have HN:Hid (∀ j,j<m+1→isId (s.getD j 0)=true):=fun j hj=>by
        rcases Nat.lt_or_ge j m with hj1 | hj1
        ·exact HD.out j hj1
        ·obtain rfl:j=m:=by omega
         rw [HI.out]; exact h1
       have H1:=Lib.hid h1; clear h1
       go_wp2
       exact ⟨⟨m+1,by omega,by go_num,HN.out⟩,by simp [intOf]; omega⟩
     ·have HF:Hid (goodFrom pre (xs.drop (k+1)) (k+1)=goodFrom pre xs 0):=by
       unfold Hid
       rw [← HG.out,← HST2.out (lead_yes (fun j hj=>HD.out j (by have:(mk s).size=s.length:=rfl; omega)))]
      go_wp2
      exact ⟨⟨k+1,by omega,by go_num,HF.out⟩,by simp [intOf]; omega⟩
   ·have HF:Hid (goodFrom pre xs 0=false):=by
     unfold Hid
     rw [← HG.out]
     exact HSP.out (.inl hf0)
    go_wp2
    go_ret
    exact ⟨by rw [HF.out]; rfl,rfl⟩
  ·have HF:Hid (goodFrom pre xs 0=true):=by
    unfold Hid
    rw [← HG.out,List.drop_eq_nil_of_le (by rw [HL.out]; omega),goodFrom]
   go_wp2
   go_ret
   exact ⟨by rw [HF.out]; rfl,rfl⟩
end Go.Proofs.YtgakcdcfblgagaaGreatDoor.Ident
namespace Go.Proofs.YtgakcdcfblgagaaGreatDoor.Ident
open Go.RowKit Num

theorem compare_less:∀ (a b:List UInt8),a≠b→Lib.compareBytes a b=if Op.bytesLess a b=true then -1 else 1:=by
 intro a
 induction a with
 | nil =>
  intro b h
  cases b with
  | nil=>exact absurd rfl h
  | cons y b=>simp [Lib.compareBytes,Op.bytesLess]
 | cons x a ih =>
  intro b h
  cases b with
  | nil=>simp [Lib.compareBytes,Op.bytesLess]
  | cons y b =>
   unfold Lib.compareBytes Op.bytesLess
   rcases Nat.lt_trichotomy x.toNat y.toNat with g | g | g
   ·have g1:x<y:=UInt8.lt_iff_toNat_lt.2 g
    simp [g1]
   ·have e:x=y:=UInt8.toNat_inj.1 g
    subst e
    have:=ih b (fun e=>h (by rw [e]))
    simp [UInt8.lt_irrefl,this]
   ·have g1:y<x:=UInt8.lt_iff_toNat_lt.2 g
    have g2:¬ x<y:=fun k=>by have:=UInt8.lt_iff_toNat_lt.1 k; omega
    have g3:¬ x=y:=fun k=>by subst k; exact g2 g1
    simp [g1,g2,g3]
theorem numeric_all {a:List UInt8} (h:numeric a=true):AllDig a:=all_of_run ((numeric_iff a).1 h).2
theorem cmpId_both {a b:List UInt8} (ha:numeric a=true) (hb:numeric b=true):cmpId a b=if ordN (val a) (val b)=0 then ordN a.length b.length else ordN (val a) (val b):=by
 unfold cmpId; rw [if_pos ha,if_pos hb]
theorem cmpId_first {a b:List UInt8} (ha:numeric a=true) (hb:numeric b=false):cmpId a b=-1:=by
 unfold cmpId; rw [if_pos ha,if_neg (by rw [hb]; decide)]
theorem cmpId_second {a b:List UInt8} (ha:numeric a=false) (hb:numeric b=true):cmpId a b=1:=by
 unfold cmpId; rw [if_neg (by rw [ha]; decide),if_pos hb]
theorem cmpId_neither {a b:List UInt8} (ha:numeric a=false) (hb:numeric b=false):cmpId a b=Lib.compareBytes a b:=by
 unfold cmpId; rw [if_neg (by rw [ha]; decide),if_neg (by rw [hb]; decide)]

theorem refCmp_all (s t:ByteArray) (w:World) (hs:s.size≤maxLen) (ht:t.size≤maxLen) :
  Calls Tryz.prog 129 #[.string s,.string t] w fun e w'=>e=.returned (.int .i64 (cmpId s.data.toList t.data.toList))∧w=w':=by
 unfold maxLen at hs ht
 by_cases hst:s=t
 ·have HF:Hid (cmpId s.data.toList t.data.toList=0):=by rw [hst]; exact cmpId_self _
  subst hst
  have hq:(s.toList == s.toList)=true:=by simp
  go_enter Tryz.func129,Tryz.ntmps129
  go_wp2
  go_ret
  exact ⟨by rw [HF.out]; rfl,rfl⟩
 have HNE:Hid (s.data.toList≠t.data.toList):=fun h=>hst (by have:=congrArg mk h; exact this)
 have hq:(s.toList == t.toList)=false:=by
  rw [Lib.toList_data,Lib.toList_data,beq_eq_false_iff_ne]; exact HNE.out
 clear hst
 cases ha:numeric s.data.toList
 ·cases hb:numeric t.data.toList
  ·have HF:Hid (cmpId s.data.toList t.data.toList=if Op.bytesLess s.toList t.toList=true then -1 else 1):=by
    unfold Hid
    rw [cmpId_neither ha hb,compare_less _ _ HNE.out,Lib.toList_data,Lib.toList_data]
   have HA:=Lib.hid ha; clear ha
   have HC:=Lib.hid hb; clear hb
   cases hl:Op.bytesLess s.toList t.toList
   ·rw [hl,if_neg (by decide)] at HF
    go_enter Tryz.func129,Tryz.ntmps129
    go_wp2_with fail
    refine (ref_numeric_all s _ (by unfold maxLen; omega)).mono ?_
    rintro e w' ⟨rfl,rfl⟩
    rw [HA.out]
    go_wp2_with fail
    refine (ref_numeric_all t _ (by unfold maxLen; omega)).mono ?_
    rintro e w' ⟨rfl,rfl⟩
    rw [HC.out]
    go_wp2
    go_ret
    exact ⟨by rw [HF.out]; rfl,rfl⟩
   ·rw [hl,if_pos rfl] at HF
    go_enter Tryz.func129,Tryz.ntmps129
    go_wp2_with fail
    refine (ref_numeric_all s _ (by unfold maxLen; omega)).mono ?_
    rintro e w' ⟨rfl,rfl⟩
    rw [HA.out]
    go_wp2_with fail
    refine (ref_numeric_all t _ (by unfold maxLen; omega)).mono ?_
    rintro e w' ⟨rfl,rfl⟩
    rw [HC.out]
    go_wp2
    go_ret
    exact ⟨by rw [HF.out]; rfl,rfl⟩
  ·have HF:=Lib.hid (cmpId_second ha hb)
   have HA:=Lib.hid ha; clear ha
   have HC:=Lib.hid hb; clear hb
   go_enter Tryz.func129,Tryz.ntmps129
   go_wp2_with fail
   refine (ref_numeric_all s _ (by unfold maxLen; omega)).mono ?_
   rintro e w' ⟨rfl,rfl⟩
   rw [HA.out]
   go_wp2_with fail
   refine (ref_numeric_all t _ (by unfold maxLen; omega)).mono ?_
   rintro e w' ⟨rfl,rfl⟩
   rw [HC.out]
   go_wp2
   go_ret
   exact ⟨by rw [HF.out]; rfl,rfl⟩
 ·cases hb:numeric t.data.toList
  ·have HF:=Lib.hid (cmpId_first ha hb)
   have HA:=Lib.hid ha; clear ha
   have HC:=Lib.hid hb; clear hb
   go_enter Tryz.func129,Tryz.ntmps129
   go_wp2_with fail
   refine (ref_numeric_all s _ (by unfold maxLen; omega)).mono ?_
   rintro e w' ⟨rfl,rfl⟩
   rw [HA.out]
   go_wp2_with fail
   refine (ref_numeric_all t _ (by unfold maxLen; omega)).mono ?_
   rintro e w' ⟨rfl,rfl⟩
   rw [HC.out]
   go_wp2
   go_ret
   exact ⟨by rw [HF.out]; rfl,rfl⟩
  ·have HF:=Lib.hid (cmpId_both ha hb)
   have AA:=Lib.hid (numeric_all ha)
   have AB:=Lib.hid (numeric_all hb)
   have HA:=Lib.hid ha; clear ha
   have HC:=Lib.hid hb; clear hb
   go_enter Tryz.func129,Tryz.ntmps129
   go_wp2_with fail
   refine (ref_numeric_all s _ (by unfold maxLen; omega)).mono ?_
   rintro e w' ⟨rfl,rfl⟩
   rw [HA.out]
   go_wp2_with fail
   refine (ref_numeric_all t _ (by unfold maxLen; omega)).mono ?_
   rintro e w' ⟨rfl,rfl⟩
   rw [HC.out]
   have HVI:Hid (val s.data.toList=val t.data.toList→s.size≠t.size):=fun h1 h2=>HNE.out (val_inj _ _ AA.out AB.out (by rw [← Lib.size_eq,← Lib.size_eq]; exact h2) h1)
   have HL1:=Lib.hid (Lib.size_eq s)
   have HL2:=Lib.hid (Lib.size_eq t)
   have ZA:Hid (Zeros s.data.toList s):=⟨0,rfl⟩
   have ZB:Hid (Zeros t.data.toList t):=⟨0,rfl⟩
   obtain ⟨l,hl⟩:∃ l,s.data.toList=l:=⟨_,rfl⟩
   obtain ⟨r,hr⟩:∃ r,t.data.toList=r:=⟨_,rfl⟩
   have HG:Hid (cmpId s.data.toList t.data.toList=if ordN (val l) (val r)=0 then ordN s.size t.size else ordN (val l) (val r)):=by have:=HF.out; rw [← HL1.out,← HL2.out,hl,hr] at this; rw [hl,hr]; exact this
   rw [hl] at AA ZA HVI
   rw [hr] at AB ZB HVI
   clear HF HA HC hl hr HL1 HL2 HNE
   go_wp2
   go_loop [8] (fun v=>∃ s':ByteArray,v=.string s'∧Hid (Zeros l s')∧s'.size≤9223372036854775807) (fun v=>t.size - strSize v)
   case atStart=>exact ⟨s,rfl,ZA,hs⟩
   case round =>
    obtain ⟨s',rfl,ZS,hs'⟩:=hrel
    by_cases hlt:s'.size<t.size
    ·go_wp2
     go_round
     case rel=>exact ⟨_,rfl,zero_ahead ZS.out,by rw [zero_size]; omega⟩
     case measure=>simp only [strSize]; rw [zero_size]; omega
    ·go_wp2
     go_loop [9] (fun v=>∃ t':ByteArray,v=.string t'∧Hid (Zeros r t')∧t'.size≤s'.size) (fun v=>s'.size - strSize v)
     case atStart=>exact ⟨t,rfl,ZB,by omega⟩
     case round =>
      obtain ⟨t',rfl,ZT,ht'⟩:=hrel
      by_cases hlt2:t'.size<s'.size
      ·go_wp2
       go_round
       case rel=>exact ⟨_,rfl,zero_ahead ZT.out,by rw [zero_size]; omega⟩
       case measure=>simp only [strSize]; rw [zero_size]; omega
      ·have hsz:s'.size=t'.size:=by omega
       have h1:=zeros_less AA.out AB.out ZS.out ZT.out hsz
       have h2:=zeros_eq AA.out AB.out ZS.out ZT.out hsz
       clear hsz
       rcases Nat.lt_trichotomy (val l) (val r) with h | h | h
       ·have hb1:Op.bytesLess s'.toList t'.toList=true:=h1.2 h
        have HO:Hid (cmpId s.data.toList t.data.toList=-1):=by have:=HG.out; rw [ordN_lt h,if_neg (by decide)] at this; exact this
        clear h h1 h2
        go_wp2
        go_ret
        exact ⟨by rw [HO.out]; rfl,rfl⟩
       ·have hb1:Op.bytesLess s'.toList t'.toList=false:=by rw [← Bool.not_eq_true,h1]; omega
        have hb2:(s'.toList == t'.toList)=true:=h2.2 h
        have hne:=HVI.out h
        have HO:Hid (cmpId s.data.toList t.data.toList=ordN s.size t.size):=by have:=HG.out; rw [ordN_eq h,if_pos rfl] at this; exact this
        clear h h1 h2
        by_cases hlen:s.size<t.size
        ·have HO2:=Lib.hid (HO.out.trans (ordN_lt hlen))
         clear hne
         go_wp2
         go_ret
         exact ⟨by rw [HO2.out]; rfl,rfl⟩
        ·have HO2:=Lib.hid (HO.out.trans (ordN_gt (by omega)))
         clear hne
         go_wp2
         go_ret
         exact ⟨by rw [HO2.out]; rfl,rfl⟩
       ·have hb1:Op.bytesLess s'.toList t'.toList=false:=by rw [← Bool.not_eq_true,h1]; omega
        have hb2:(s'.toList == t'.toList)=false:=by rw [← Bool.not_eq_true,h2]; omega
        have HO:Hid (cmpId s.data.toList t.data.toList=1):=by have:=HG.out; rw [ordN_gt h,if_neg (by decide)] at this; exact this
        clear h h1 h2
        go_wp2
        go_ret
        exact ⟨by rw [HO.out]; rfl,rfl⟩

theorem drop_rows (xs:List (List UInt8)) (k:Nat) (h:k<xs.length):xs.drop k=xs.getD k [] :: xs.drop (k+1):=by
 rw [List.drop_eq_getElem_cons h]; simp [List.getD,List.getElem?_eq_getElem h]
theorem text_mem (xs:List (List UInt8)) (k:Nat) (h:k<xs.length):xs.getD k [] ∈ xs:=by simp [List.getD,List.getElem?_eq_getElem h]
theorem refRows_end {xs ys:List (List UInt8)} {k:Nat} (h:¬ (k<xs.length∧k<ys.length)) (h1:k≤xs.length) (h2:k≤ys.length):cmpRows (xs.drop k) (ys.drop k)=ordN xs.length ys.length:=by
 have e:cmpRows (xs.drop k) (ys.drop k)=ordN (xs.drop k).length (ys.drop k).length:=by
  rcases Nat.lt_or_ge k xs.length with g | g
  ·rw [show ys.drop k=[] from List.drop_eq_nil_of_le (by omega),cmpRows_nil']; rfl
  ·rw [show xs.drop k=[] from List.drop_eq_nil_of_le g,cmpRows_nil]; rfl
 rw [e,List.length_drop,List.length_drop]
 rcases Nat.lt_trichotomy xs.length ys.length with g | g | g
 ·rw [ordN_lt g,ordN_lt (by omega)]
 ·rw [ordN_eq g,ordN_eq (by omega)]
 ·rw [ordN_gt g,ordN_gt (by omega)]

theorem refRows_all (A:Option Addr) (a ca:Nat) (xs:List (List UInt8)) (B:Option Addr) (b cb:Nat) (ys:List (List UInt8)) (w:World) (hA:SRow w A a xs) (hB:SRow w B b ys) (ha:a≤maxLen) (hb:b≤maxLen) (hx:∀ x ∈ xs,x.length≤maxLen) (hy:∀ y ∈ ys,y.length≤maxLen) :
  Calls Tryz.prog 73 #[.slice A a ca,.slice B b cb] w fun e w'=>e=.returned (.int .i64 (cmpRows xs ys))∧Below w.heap.size w w':=by
 unfold maxLen at ha hb
 have HA:=Lib.hid hA
 have HB:=Lib.hid hB
 have HX:=Lib.hid hx
 have HY:=Lib.hid hy
 have HLA:=Lib.hid hA.1
 have HLB:=Lib.hid hB.1
 clear hA hB hx hy
 go_enter Tryz.func73,Tryz.ntmps73
 go_wp2
 go_loopw [5] (fun i W=>∃ k:Nat,k≤a∧k≤b∧i=.int .i64 k∧Hid (cmpRows (xs.drop k) (ys.drop k)=cmpRows xs ys)∧Hid (Below w.heap.size w W)) (fun i _=>a - (intOf i).toNat)
 case atStart=>exact ⟨0,Nat.zero_le _,Nat.zero_le _,rfl,rfl,Below.refl _ _⟩
 case round =>
  obtain ⟨k,hk1,hk2,rfl,HG,HW⟩:=hrel
  by_cases hka:k<a
  ·by_cases hkb:k<b
   ·obtain ⟨g1,o1,rfl,hg1,hc1⟩:=(HA.out.kept HW.out).2 (by omega)
    obtain ⟨g2,o2,rfl,hg2,hc2⟩:=(HB.out.kept HW.out).2 (by omega)
    have hx1:=hc1 k hka
    have hx2:=hc2 k hkb
    clear hc1 hc2
    have HZ1:=Lib.hid (HX.out _ (text_mem xs k (by rw [HLA.out]; exact hka)))
    have HZ2:=Lib.hid (HY.out _ (text_mem ys k (by rw [HLB.out]; exact hkb)))
    have HD:Hid (cmpRows xs ys=if cmpId (xs.getD k []) (ys.getD k [])=0 then cmpRows (xs.drop (k+1)) (ys.drop (k+1)) else cmpId (xs.getD k []) (ys.getD k [])):=by
     unfold Hid
     rw [← HG.out,drop_rows xs k (by rw [HLA.out]; exact hka),drop_rows ys k (by rw [HLB.out]; exact hkb),cmpRows]
    generalize xs.getD k []=s at hx1 HZ1 HD
    generalize ys.getD k []=t at hx2 HZ2 HD
    go_wp2
    go_still_tail 8,(by kernel_rfl)
    change wpList _ _ _ _ _ wr.drew
    have HW2:=Lib.hid HW.out.drew
    generalize wr.drew=w2 at HW2
    clear hx1 hx2
    go_wp2_with fail
    refine (refCmp_all (mk s) (mk t) _ HZ1.out HZ2.out).mono ?_
    rintro e w' ⟨rfl,rfl⟩
    rw [mk_list,mk_list]
    generalize cmpId s t=c at HD ⊢
    by_cases hc:c=0
    ·have HD2:Hid (cmpRows (xs.drop (k+1)) (ys.drop (k+1))=cmpRows xs ys):=by have:=HD.out; rw [if_pos hc] at this; exact this.symm
     subst hc
     clear HD
     go_wp2
     exact ⟨⟨k+1,by omega,by omega,by go_num,HD2.out,HW2.out⟩,by simp [intOf]; omega⟩
    ·have HD2:Hid (cmpRows xs ys=c):=by have:=HD.out; rw [if_neg hc] at this; exact this
     have hn:(c == 0)=false:=by simp [hc]
     have hn2:(c != 0)=true:=by simp [hc]
     clear HD hc
     go_wp2
     go_ret
     exact ⟨by rw [HD2.out]; rfl,HW2.out⟩
   ·have HE:Hid (cmpRows xs ys=ordN a b):=by unfold Hid; rw [← HG.out,refRows_end (by rw [HLA.out,HLB.out]; omega) (by rw [HLA.out]; omega) (by rw [HLB.out]; omega),HLA.out,HLB.out]
    have HE2:=Lib.hid (HE.out.trans (ordN_gt (by omega)))
    go_wp2
    go_ret
    exact ⟨by rw [HE2.out]; rfl,HW.out⟩
  ·have HE:Hid (cmpRows xs ys=ordN a b):=by unfold Hid; rw [← HG.out,refRows_end (by rw [HLA.out,HLB.out]; omega) (by rw [HLA.out]; omega) (by rw [HLB.out]; omega),HLA.out,HLB.out]
   obtain rfl:k=a:=by omega
   rcases Nat.lt_or_ge k b with hlt | hge
   ·have HE2:=Lib.hid (HE.out.trans (ordN_lt hlt))
    go_wp2
    go_ret
    exact ⟨by rw [HE2.out]; rfl,HW.out⟩
   ·obtain rfl:k=b:=by omega
    have HE2:=Lib.hid (HE.out.trans (ordN_eq rfl))
    go_wp2
    go_ret
    exact ⟨by rw [HE2.out]; rfl,HW.out⟩
end Go.Proofs.YtgakcdcfblgagaaGreatDoor.Ident
namespace Go.Proofs.YtgakcdcfblgagaaGreatDoor.Range
open Num Ident Semver

inductive Rng where
 | mk (kind:Int) (v:Ver) (l:List Rng)
def Rng.kind:Rng→Int
 | .mk k _ _=>k
def Rng.ver:Rng→Ver
 | .mk _ v _=>v
def Rng.subs:Rng→List Rng
 | .mk _ _ l=>l
def noRng:Rng:=.mk 0 noVer []
instance:Inhabited Rng:=⟨noRng⟩

def blankB (b:UInt8):Bool:=b == 32 || b == 9
def blanks:List UInt8→List UInt8
 | []=>[]
 | b :: s=>if blankB b then blanks s else b :: s
def stands (t s:List UInt8):Bool:=t.isPrefixOf s
def oneOf (some s:List UInt8):Bool:=match s with
 | []=>false
 | b :: _=>decide (b ∈ some)
def lackN (s:List UInt8):Nat:=if s=[] then 5 else 3
def digits:List UInt8:=[48,49,50,51,52,53,54,55,56,57]
def starts:List UInt8:=[40,33,42,62,60,61,94,126,48,49,50,51,52,53,54,55,56,57]
def ops:List (List UInt8):=[[62,61],[62],[60,61],[60],[61],[33,61],[94],[126]]
def opFrom (s:List UInt8):List (List UInt8)→Int→Int × List UInt8
 | [],_=>(5,[])
 | t :: r,k=>if stands t s then (k,t) else opFrom s r (k+1)
def opOf (s:List UInt8):Int × List UInt8:=opFrom s ops 1
abbrev Out:=Nat × List UInt8 × Rng
def verAt (kind:Int) (s:List UInt8):Out :=
 if oneOf digits s=true then
  if (vparse s 0).1≠0 then ((vparse s 0).1,s.drop (vparse s 0).2.1,noRng) else (0,blanks (s.drop (vparse s 0).2.1),.mk kind (vparse s 0).2.2 [])
 else (lackN s,s,noRng)
def whole (kind:Int) (acc:List Rng) (r:Rng):Rng:=if acc=[] then r else .mk kind noVer (acc ++ [r])
def sev (pf:List UInt8→Out) (ff:List UInt8→Option (List UInt8)) (kind:Int):Nat→List Rng→List UInt8→Out
 | 0,_,s=>(99,s,noRng)
 | n+1,acc,s=>if (pf s).1≠0 then ((pf s).1,(pf s).2.1,noRng) else
  match ff (pf s).2.1 with
  | some s'=>sev pf ff kind n (acc ++ [(pf s).2.2]) s'
  | none=>(0,(pf s).2.1,whole kind acc (pf s).2.2)
def furE (s:List UInt8):Option (List UInt8):=if stands [124,124] s=true then some (blanks (s.drop 2)) else none
def furO (s:List UInt8):Option (List UInt8):=if stands [44] s=true then some (blanks (s.drop 1)) else if oneOf starts s=true then some s else none
def everyF (pf:List UInt8→Out) (s:List UInt8):Out:=sev pf furO 9 (s.length+1) [] s
def exprF (pf:List UInt8→Out) (s:List UInt8):Out:=sev (everyF pf) furE 10 (s.length+1) [] s
def shutF (t:Out):Out:=if t.1≠0 then (t.1,t.2.1,noRng) else if stands [41] t.2.1=true then (0,blanks (t.2.1.drop 1),t.2.2) else (lackN t.2.1,t.2.1,noRng)
def notF (t:Out):Out:=if t.1≠0 then (t.1,t.2.1,noRng) else (0,t.2.1,.mk 11 noVer [t.2.2])
def oneF (sub:Option (List UInt8→Out)) (s:List UInt8):Out :=
 if stands [42] s=true then (0,blanks (s.drop 1),noRng)
 else if stands [40] s=true then (match sub with
  | none=>(8,s,noRng)
  | some f=>shutF (exprF f (blanks (s.drop 1))))
 else if (opOf s).2=[]∧stands [33] s=true then (match sub with
  | none=>(8,s,noRng)
  | some f=>notF (f (blanks (s.drop 1))))
 else verAt (opOf s).1 (blanks (s.drop (opOf s).2.length))
def pone:Nat→List UInt8→Out
 | 0=>oneF none
 | k+1=>oneF (some (pone k))

def bracketed (outer kind:Int):Bool:=decide (kind=10∨kind=9∧outer≠10)
def ofVersion (kind:Int):Bool:=decide (1≤kind∧kind≤8)
def opens (outer kind:Int):Nat:=(if outer=11 then 1 else 0)+(if bracketed outer kind=true then 1 else 0)
def fits (kind:Int) (v:Ver) (n:Nat):Bool :=
 if ofVersion kind=true then goodV v && decide (n=0)
 else if sameV v noVer=false then false
 else if kind=0 then decide (n=0) else if kind=9∨kind=10 then decide (2≤n) else if kind=11 then decide (n=1) else false
mutual
def goodR:Rng→Nat→Bool
 | .mk kind v l,deep=>decide (deep≤64) && fits kind v l.length && goodL kind l deep
def goodL (outer:Int):List Rng→Nat→Bool
 | [],_=>true
 | r :: rs,deep=>goodR r (deep+opens outer r.kind) && goodL outer rs deep
end
def markR (kind:Int) (v:Ver):List UInt8 :=
 if kind=0 then [42] else if kind=9∨kind=10 then [] else if kind=11 then [33] else if ofVersion kind=true then ops.getD (kind - 1).toNat [] ++ vtext v else vtext v
def aheadR (outer kind:Int) (told:Nat):List UInt8 :=
 if outer=11∧kind=5 then [32] else if told=0 then [] else if outer=10 then [32,124,124,32] else [44,32]
def openR (outer kind:Int):List UInt8:=if bracketed outer kind=true then [40] else []
def shutR (outer kind:Int):List UInt8:=if bracketed outer kind=true then [41] else []
def most (kind:Int) (n:Nat):Nat:=if kind=9∨kind=10 then n else if kind=11 then min 1 n else 0
mutual
def textR:Rng→List UInt8
 | .mk kind v l=>markR kind v ++ textL kind (most kind l.length) l 0
def textL (outer:Int) (m:Nat):List Rng→Nat→List UInt8
 | [],_=>[]
 | r :: rs,i=>if i<m then aheadR outer r.kind i ++ (openR outer r.kind ++ textR r ++ shutR outer r.kind) ++ textL outer m rs (i+1) else []
end
theorem goodR_eq (kind:Int) (v:Ver) (l:List Rng) (deep:Nat):goodR (.mk kind v l) deep=(decide (deep≤64) && fits kind v l.length && goodL kind l deep):=rfl
theorem goodL_cons (outer:Int) (r:Rng) (rs:List Rng) (deep:Nat):goodL outer (r :: rs) deep=(goodR r (deep+opens outer r.kind) && goodL outer rs deep):=rfl
end Go.Proofs.YtgakcdcfblgagaaGreatDoor.Range
