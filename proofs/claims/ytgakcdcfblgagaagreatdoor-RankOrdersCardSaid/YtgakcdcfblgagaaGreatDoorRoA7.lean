/-
  What the theorem of the last text needs of these: SvRefSmall, IdTexts, SvGood, PrCores, SpMath. Conditions: as each theorem states.
-/
import Derived.Test.YtgakcdcfblgagaaGreatDoorRoA1
import Derived.Test.YtgakcdcfblgagaaGreatDoorRoA3
import Derived.Test.YtgakcdcfblgagaaGreatDoorRoA4
import Derived.Test.YtgakcdcfblgagaaGreatDoorRoA5
import Derived.Test.YtgakcdcfblgagaaGreatDoorRoA6
import Derived.Deep.CutBlock
import Derived.Deep.DeepCutAuto
import Derived.Test.YtgakcdcfblgagaaGreatDoorShelfJoin
import Derived.StillTailTactics
set_option maxRecDepth 100000
set_option maxHeartbeats 25600000
namespace Go.Proofs.YtgakcdcfblgagaaGreatDoor.Semver
open Go.RowKit Num Ident

theorem refGood_all (v:Ver) (A:Option Addr) (c:Nat) (B:Option Addr) (d:Nat) (w:World) (hr1:SRow w A v.pre.length v.pre) (hr2:SRow w B v.build.length v.build) (hn1:v.pre.length≤maxLen) (hn2:v.build.length≤maxLen) (hs1:∀ x ∈ v.pre,x.length≤maxLen) (hs2:∀ x ∈ v.build,x.length≤maxLen) :
  Calls Tryz.prog 34 #[.agg #[v.a,v.b,v.c,.slice A v.pre.length c,.slice B v.build.length d]] w fun e w'=>e=.returned (.bool (goodV v))∧Below w.heap.size w w':=by
 have HBa:Hid (Below w.heap.size w (w.alloc (.cells #[v.a,v.b,v.c,.slice A v.pre.length c,.slice B v.build.length d] 37))):=(Below.refl _ _).alloc (Nat.le_refl _) _
 have R1:=Lib.hid (hr1.kept HBa.out)
 have R2:=Lib.hid (hr2.kept HBa.out)
 have S1:=Lib.hid hs1
 have S2:=Lib.hid hs2
 have N1:=Lib.hid hn1
 have N2:=Lib.hid hn2
 have HG:Hid (goodV v=(heldB v.a v.b v.c && (goodFrom true v.pre 0 && goodFrom false v.build 0))):=rfl
 clear hr1 hr2 hs1 hs2 hn1 hn2
 by_cases h1:(v.a:Int)<9223372036854775808
 ·by_cases h2:(v.b:Int)<9223372036854775808
  ·by_cases h3:(v.c:Int)<9223372036854775808
   ·have HH:=Lib.hid (held_all h1 h2 h3)
    go_enter Tryz.func34,Tryz.ntmps34
    go_wp2_with fail
    refine (ref_good_all _ _ _ v.pre true _ R1.out N1.out S1.out).mono ?_
    rintro e w' ⟨rfl,rfl⟩
    generalize goodFrom true v.pre 0=g2 at HG ⊢
    cases g2
    ·go_wp2
     go_ret
     exact ⟨by rw [HG.out,HH.out]; rfl,HBa.out⟩
    go_wp2_with fail
    refine (ref_good_all _ _ _ v.build false _ R2.out N2.out S2.out).mono ?_
    rintro e w' ⟨rfl,rfl⟩
    go_wp2
    go_ret
    exact ⟨by rw [HG.out,HH.out]; simp,HBa.out⟩
   ·have HH:=Lib.hid (held_not3 (x:=v.a) (y:=v.b) h3)
    go_enter Tryz.func34,Tryz.ntmps34
    go_wp2
    go_ret
    exact ⟨by rw [HG.out,HH.out]; rfl,HBa.out⟩
  ·have HH:=Lib.hid (held_not2 (x:=v.a) (z:=v.c) h2)
   go_enter Tryz.func34,Tryz.ntmps34
   go_wp2
   go_ret
   exact ⟨by rw [HG.out,HH.out]; rfl,HBa.out⟩
 ·have HH:=Lib.hid (held_not1 (y:=v.b) (z:=v.c) h1)
  go_enter Tryz.func34,Tryz.ntmps34
  go_wp2
  go_ret
  exact ⟨by rw [HG.out,HH.out]; rfl,HBa.out⟩
theorem refSame_any (u v:Ver) (A1 A2 B1 B2:Option Addr) (c1 c2 d1 d2:Nat) (w:World) (r1:SRow w A1 u.pre.length u.pre) (r2:SRow w A2 u.build.length u.build) (q1:SRow w B1 v.pre.length v.pre) (q2:SRow w B2 v.build.length v.build)
  (hn1:u.pre.length≤maxLen) (hn2:u.build.length≤maxLen) (hn3:v.pre.length≤maxLen) (hn4:v.build.length≤maxLen) :
  Calls Tryz.prog 61 #[.agg #[u.a,u.b,u.c,.slice A1 u.pre.length c1,.slice A2 u.build.length c2],.agg #[v.a,v.b,v.c,.slice B1 v.pre.length d1,.slice B2 v.build.length d2]] w fun e w'=>e=.returned (.bool (sameV u v))∧Below w.heap.size w w':=by
 have HBa:Hid (Below w.heap.size w ((w.alloc (.cells #[u.a,u.b,u.c,.slice A1 u.pre.length c1,.slice A2 u.build.length c2] 37)).alloc (.cells #[v.a,v.b,v.c,.slice B1 v.pre.length d1,.slice B2 v.build.length d2] 37))):=((Below.refl _ _).alloc (Nat.le_refl _) _).alloc (by simp) _
 have R1:=Lib.hid (r1.kept HBa.out)
 have R2:=Lib.hid (r2.kept HBa.out)
 have Q1:=Lib.hid (q1.kept HBa.out)
 have Q2:=Lib.hid (q2.kept HBa.out)
 have N1:=Lib.hid hn1
 have N2:=Lib.hid hn2
 have N3:=Lib.hid hn3
 have N4:=Lib.hid hn4
 have K1:Hid (At5 ((w.alloc (.cells #[u.a,u.b,u.c,.slice A1 u.pre.length c1,.slice A2 u.build.length c2] 37)).alloc (.cells #[v.a,v.b,v.c,.slice B1 v.pre.length d1,.slice B2 v.build.length d2] 37)) w.heap.size u.a u.b u.c (.slice A1 u.pre.length c1) (.slice A2 u.build.length c2)):=(At5.new w 37 _ _ _ _ _).kept ((Below.refl _ _).alloc (Nat.le_refl _) _) (by simp)
 have K2:Hid (At5 ((w.alloc (.cells #[u.a,u.b,u.c,.slice A1 u.pre.length c1,.slice A2 u.build.length c2] 37)).alloc (.cells #[v.a,v.b,v.c,.slice B1 v.pre.length d1,.slice B2 v.build.length d2] 37)) (w.heap.size+1) v.a v.b v.c (.slice B1 v.pre.length d1) (.slice B2 v.build.length d2)):=by
  have:=At5.new (w.alloc (.cells #[u.a,u.b,u.c,.slice A1 u.pre.length c1,.slice A2 u.build.length c2] 37)) 37 v.a v.b v.c (.slice B1 v.pre.length d1) (.slice B2 v.build.length d2)
  rw [size_alloc] at this; exact this
 clear r1 r2 q1 q2 hn1 hn2 hn3 hn4
 by_cases h1:u.a=v.a
 ·have e1:((u.a:Int) == (v.a:Int))=true:=by simp [h1]
  by_cases h2:u.b=v.b
  ·have e2:((u.b:Int) == (v.b:Int))=true:=by simp [h2]
   by_cases h3:u.c=v.c
   ·have e3:((u.c:Int) == (v.c:Int))=true:=by simp [h3]
    have HF:Hid (sameV u v=(sameB u.pre v.pre && sameB u.build v.build)):=by unfold Hid sameV; rw [decide_eq_true ⟨h1,h2,h3⟩]; rfl
    clear h1 h2 h3
    go_enter Tryz.func61,Tryz.ntmps61
    go_upto_region 1 with (fail)
    generalize ((w.alloc (.cells #[u.a,u.b,u.c,.slice A1 u.pre.length c1,.slice A2 u.build.length c2] 37)).alloc (.cells #[v.a,v.b,v.c,.slice B1 v.pre.length d1,.slice B2 v.build.length d2] 37))=W at HBa R1 R2 Q1 Q2 K1 K2 ⊢
    have hz:=K2.out.1
    have hzw:=HBa.out.size
    obtain ⟨_,_,x0,x1,x2,x3,x4⟩:=K1.out
    obtain ⟨_,_,y0,y1,y2,y3,y4⟩:=K2.out
    go_wp2_with fail
    refine (same_any _ _ _ u.pre _ _ _ v.pre _ R1.out Q1.out N1.out N3.out).mono ?_
    rintro e w1 ⟨rfl,hb1⟩
    have L1:=Lib.hid (K1.out.kept hb1 (by omega))
    have L2:=Lib.hid (K2.out.kept hb1 (by omega))
    have R2':=Lib.hid (R2.out.kept hb1)
    have Q2':=Lib.hid (Q2.out.kept hb1)
    have HB1:=Lib.hid (HBa.out.trans (hb1.mono hzw))
    have hz1:=HB1.out.size
    clear hb1 x0 x1 x2 x3 x4 y0 y1 y2 y3 y4
    obtain ⟨_,_,x0,x1,x2,x3,x4⟩:=L1.out
    obtain ⟨_,_,y0,y1,y2,y3,y4⟩:=L2.out
    generalize sameB u.pre v.pre=g1 at HF ⊢
    cases g1
    ·go_wp2
     go_ret
     exact ⟨by rw [HF.out]; rfl,HB1.out⟩
    go_wp2_with fail
    refine (same_any _ _ _ u.build _ _ _ v.build _ R2'.out Q2'.out N2.out N4.out).mono ?_
    rintro e w2 ⟨rfl,hb2⟩
    have HB2:=Lib.hid (HB1.out.trans (hb2.mono hz1))
    clear hb2 x0 x1 x2 x3 x4 y0 y1 y2 y3 y4
    go_wp2
    go_ret
    exact ⟨by rw [HF.out]; simp,HB2.out⟩
   ·have e3:((u.c:Int) == (v.c:Int))=false:=by simp; omega
    have HF:=Lib.hid (sameV_no (u:=u) (v:=v) fun h=>h3 h.2.2)
    clear h1 h2 h3
    go_enter Tryz.func61,Tryz.ntmps61
    go_wp2
    go_ret
    exact ⟨by rw [HF.out]; rfl,HBa.out⟩
  ·have e2:((u.b:Int) == (v.b:Int))=false:=by simp; omega
   have HF:=Lib.hid (sameV_no (u:=u) (v:=v) fun h=>h2 h.2.1)
   clear h1 h2
   go_enter Tryz.func61,Tryz.ntmps61
   go_wp2
   go_ret
   exact ⟨by rw [HF.out]; rfl,HBa.out⟩
 ·have e1:((u.a:Int) == (v.a:Int))=false:=by simp; omega
  have HF:=Lib.hid (sameV_no (u:=u) (v:=v) fun h=>h1 h.1)
  clear h1
  go_enter Tryz.func61,Tryz.ntmps61
  go_wp2
  go_ret
  exact ⟨by rw [HF.out]; rfl,HBa.out⟩
end Go.Proofs.YtgakcdcfblgagaaGreatDoor.Semver
namespace Go.Proofs.YtgakcdcfblgagaaGreatDoor.Ident
open Go.RowKit Num

theorem text_any (A:Option Addr) (n c:Nat) (xs:List (List UInt8)) (w:World) (hr:SRow w A n xs) (hc:n≤c) (hs:shortB xs=true) :
  Calls Tryz.prog 148 #[.slice A n c] w fun e w'=>e=.returned (.string (mk (joined xs)))∧Below w.heap.size w w':=by
 have HJ:Hid (∀ W,W=w→Calls Tryz.prog 193 #[.slice A n c,.string ⟨#[46]⟩] W fun e w'=>e=.returned (.string (mk (joined xs)))∧Below w.heap.size w w'):=by
  rintro W rfl
  have hn:=hr.1
  rw [shortB_iff] at hs
  have hle:=joined_le xs hs.2
  rcases Nat.eq_zero_or_pos n with h0 | h0
  ·subst h0
   have e:xs=[]:=List.eq_nil_of_length_eq_zero hn
   subst e
   refine (Tryz.strings_Join_none A c ⟨#[46]⟩ W).mono ?_
   rintro e w' ⟨rfl,rfl⟩
   exact ⟨rfl,Below.refl _ _⟩
  ·obtain ⟨b,o,rfl,hb,hcell⟩:=hr.2 h0
   have e1:(xs.map mk).map (fun x:ByteArray=>x.data.toList)=xs:=by
    rw [List.map_map]; exact List.map_id xs
   have:=Tryz.strings_Join b o c (xs.map mk) ⟨#[46]⟩ W (fun j x hx=>by
    have hj:j<xs.length:=by have:=(List.getElem?_eq_some_iff.1 hx).1; rwa [List.length_map] at this
    have hx2:x=mk (xs.getD j []):=by
     rw [List.getElem?_map,List.getElem?_eq_getElem hj] at hx
     simp at hx
     rw [← hx]; simp [List.getD,List.getElem?_eq_getElem hj]
    rw [hx2]; exact hcell j (by omega)) hb (by rw [List.length_map]; omega) (by rw [List.length_map]; omega) (by
     rw [e1]
     show (joined xs).length≤_
     omega)
   rw [e1,List.length_map,hn] at this
   exact this
 clear hr hs
 go_enter Tryz.func148,Tryz.ntmps148
 go_wp2_with fail
 refine (HJ.out _ rfl).mono ?_
 rintro e w1 ⟨rfl,hb1⟩
 go_wp2
 go_ret
 exact ⟨rfl,hb1⟩
end Go.Proofs.YtgakcdcfblgagaaGreatDoor.Ident
namespace Go.Proofs.YtgakcdcfblgagaaGreatDoor.Semver
open Go.RowKit Num Ident

def HeldAt (x y z i:Nat):Prop:=i=0∨(i=1∧x≤maxField)∨(i=2∧x≤maxField∧y≤maxField)∨(i=3∧x≤maxField∧y≤maxField∧z≤maxField)
def HeldJ (w:World) (x y z:Nat) (a':Act) (w':World):Prop :=
 ∃ (i:Nat) (u4 u5 u6 u7 u8 u9 u10 u11:Value),w'=w.alloc (.cells #[.int .u64 x,.int .u64 y,.int .u64 z] 163)∧HeldAt x y z i ∧
  a'={ tmps:=#[.agg #[.int .u64 x,.int .u64 y,.int .u64 z],.pointer (some ⟨w.heap.size,0,none⟩),.bool false,.int .i64 i,u4,u5,u6,u7,u8,u9,u10,u11],defers:=[] }
def HeldM (a':Act) (_:World):Nat:=4 - (intOf (a'.tmps.getD 3 undef)).toNat
theorem held_any (x y z:Nat) (w:World) :
  Calls Tryz.prog 199 #[.agg #[.int .u64 x,.int .u64 y,.int .u64 z]] w fun e w'=>e=.returned (.bool (heldB x y z))∧Below w.heap.size w w':=by
 have HB:Hid (Below w.heap.size w (w.alloc (.cells #[.int .u64 x,.int .u64 y,.int .u64 z] 163))):=(Below.refl _ _).alloc (Nat.le_refl _) _
 go_enter Tryz.func199,Tryz.ntmps199
 go_wp2
 refine wp_scope_back 0 (HeldJ w x y z) HeldM rfl ?_ ?_
 ·rintro a' w1 ⟨i,u4,u5,u6,u7,u8,u9,u10,u11,rfl,hat,rfl⟩
  rcases hat with rfl | ⟨rfl,h1⟩ | ⟨rfl,h1,h2⟩ | ⟨rfl,h1,h2,h3⟩
  ·by_cases hx:(x:Int)≤9223372036854775807
   ·have HX:=Lib.hid (field_le hx)
    go_wp2
    go_step3
    refine ⟨rfl,⟨1,_,_,_,_,_,_,_,_,rfl,.inr (.inl ⟨rfl,HX.out⟩),rfl⟩,?_⟩
    simp [HeldM,intOf]
   ·have HF:Hid (heldB x y z=false):=heldB_no fun hh=>field_no hx hh.1
    have hx2:(9223372036854775807:Int)<(x:Int):=by omega
    clear hx
    go_wp2
    simp only [Exit.jump]
    go_ret
    exact ⟨by rw [HF.out]; rfl,HB.out⟩
  ·have H1:=Lib.hid h1; clear h1
   by_cases hx:(y:Int)≤9223372036854775807
   ·have HX:=Lib.hid (field_le hx)
    go_wp2
    go_step3
    refine ⟨rfl,⟨2,_,_,_,_,_,_,_,_,rfl,.inr (.inr (.inl ⟨rfl,H1.out,HX.out⟩)),rfl⟩,?_⟩
    simp [HeldM,intOf]
   ·have HF:Hid (heldB x y z=false):=heldB_no fun hh=>field_no hx hh.2.1
    have hx2:(9223372036854775807:Int)<(y:Int):=by omega
    clear hx
    go_wp2
    simp only [Exit.jump]
    go_ret
    exact ⟨by rw [HF.out]; rfl,HB.out⟩
  ·have H1:=Lib.hid h1; clear h1; have H2:=Lib.hid h2; clear h2
   by_cases hx:(z:Int)≤9223372036854775807
   ·have HX:=Lib.hid (field_le hx)
    go_wp2
    go_step3
    refine ⟨rfl,⟨3,_,_,_,_,_,_,_,_,rfl,.inr (.inr (.inr ⟨rfl,H1.out,H2.out,HX.out⟩)),rfl⟩,?_⟩
    simp [HeldM,intOf]
   ·have HF:Hid (heldB x y z=false):=heldB_no fun hh=>field_no hx hh.2.2
    have hx2:(9223372036854775807:Int)<(z:Int):=by omega
    clear hx
    go_wp2
    simp only [Exit.jump]
    go_ret
    exact ⟨by rw [HF.out]; rfl,HB.out⟩
  ·have HF:=Lib.hid (heldB_yes h1 h2 h3)
   clear h1 h2 h3
   go_wp2
   simp only [Exit.jump]
   go_ret
   exact ⟨by rw [HF.out]; rfl,HB.out⟩
 ·intro HP
  go_wp2
  go_step3
  rename_i hK
  exact hK _ _ (HP.out _ _ ⟨0,_,_,_,_,_,_,_,_,rfl,.inl rfl,rfl⟩)
theorem vgood_any (v:Ver) (A:Option Addr) (c:Nat) (B:Option Addr) (d:Nat) (w:World) (hr1:SRow w A v.pre.length v.pre) (hr2:SRow w B v.build.length v.build)
  (hn1:v.pre.length≤maxLen) (hn2:v.build.length≤maxLen) (hx1:∀ x ∈ v.pre,x.length≤maxLen) (hx2:∀ x ∈ v.build,x.length≤maxLen) :
  Calls Tryz.prog 164 #[.agg #[v.a,v.b,v.c,.slice A v.pre.length c,.slice B v.build.length d]] w fun e w'=>e=.returned (.bool (goodV v))∧Below w.heap.size w w':=by
 have R1:=Lib.hid hr1
 have R2:=Lib.hid hr2
 have N1:=Lib.hid hn1
 have N2:=Lib.hid hn2
 have X1:=Lib.hid hx1
 have X2:=Lib.hid hx2
 clear hr1 hr2 hn1 hn2 hx1 hx2
 have HBa:=Lib.hid ((Below.refl w.heap.size w).alloc (Nat.le_refl _) (.cells #[v.a,v.b,v.c,.slice A v.pre.length c,.slice B v.build.length d] 37))
 have K0:=Lib.hid (At5.new w 37 v.a v.b v.c (.slice A v.pre.length c) (.slice B v.build.length d))
 have HG:Hid (goodV v=(heldB v.a v.b v.c && (goodFrom true v.pre 0 && goodFrom false v.build 0))):=rfl
 go_enter Tryz.func164,Tryz.ntmps164
 go_wp2_with fail
 refine (coreOf_any _ _ _ _ _ _).mono ?_
 rintro e w1 ⟨rfl,hb1⟩
 have K1:=Lib.hid (K0.out.kept hb1 (by simp))
 have B1:=Lib.hid (HBa.out.trans (hb1.mono (by simp)))
 have hz1:=K1.out.1
 clear hb1 K0 HBa
 go_wp2_with fail
 refine (held_any _ _ _ _).mono ?_
 rintro e w2 ⟨rfl,hb2⟩
 have K2:=Lib.hid (K1.out.kept hb2 (by omega))
 have B2:=Lib.hid (B1.out.trans (hb2.mono (by omega)))
 have hz2:=K2.out.1
 clear hb2 K1 B1
 generalize heldB v.a v.b v.c=g1 at HG ⊢
 obtain ⟨_,_,x0,x1,x2,x3,x4⟩:=K2.out
 cases g1
 ·go_wp2
  go_ret
  exact ⟨by rw [HG.out]; rfl,B2.out⟩
 go_wp2_with fail
 refine (good_any _ _ _ v.pre true _ (R1.out.kept B2.out) N1.out X1.out).mono ?_
 rintro e w3 ⟨rfl,hb3⟩
 have K3:=Lib.hid (K2.out.kept hb3 (by omega))
 have B3:=Lib.hid (B2.out.trans (hb3.mono (by omega)))
 clear hb3 x0 x1 x2 x3 x4
 generalize goodFrom true v.pre 0=g2 at HG ⊢
 obtain ⟨hz3,_,x0,x1,x2,x3,x4⟩:=K3.out
 cases g2
 ·go_wp2
  go_ret
  exact ⟨by rw [HG.out]; rfl,B3.out⟩
 go_wp2_with fail
 refine (good_any _ _ _ v.build false _ (R2.out.kept B3.out) N2.out X2.out).mono ?_
 rintro e w4 ⟨rfl,hb4⟩
 have B4:=Lib.hid (B3.out.trans (hb4.mono (by omega)))
 clear hb4 x0 x1 x2 x3 x4
 go_wp2
 go_ret
 exact ⟨by rw [HG.out]; simp,B4.out⟩
end Go.Proofs.YtgakcdcfblgagaaGreatDoor.Semver
namespace Go.Proofs.YtgakcdcfblgagaaGreatDoor.Prec
open Go.RowKit Num Ident Semver

theorem cmpU_any (x y:Nat) (w:World) :
  Calls Tryz.prog 208 #[.int .u64 x,.int .u64 y] w fun e w'=>e=.returned (.int .i64 (ordN x y))∧w=w':=by
 rcases Nat.lt_trichotomy x y with h | h | h
 ·have HF:=Lib.hid (ordN_lt h)
  go_enter Tryz.func208,Tryz.ntmps208
  go_wp2
  go_ret
  exact ⟨by rw [HF.out]; rfl,rfl⟩
 ·have HF:=Lib.hid (ordN_eq h)
  subst h
  go_enter Tryz.func208,Tryz.ntmps208
  go_wp2
  go_ret
  exact ⟨by rw [HF.out]; rfl,rfl⟩
 ·have HF:=Lib.hid (ordN_gt h)
  go_enter Tryz.func208,Tryz.ntmps208
  go_wp2
  go_ret
  exact ⟨by rw [HF.out]; rfl,rfl⟩

theorem coreOf_anyD (a b c:Int) (x y:Value) (w:World) :
  Calls Tryz.prog 169 #[.agg #[.int .u64 a,.int .u64 b,.int .u64 c,x,y]] w fun e w'=>e=.returned (.agg #[.int .u64 a,.int .u64 b,.int .u64 c])∧BelowD w.heap.size w w':=by
 go_enter Tryz.func169,Tryz.ntmps169
 go_wp2
 exact bodyPost_ret (v:=.agg #[.int .u64 a,.int .u64 b,.int .u64 c]) (by simp [results,Tryz.results169,go_sem]) rfl ⟨rfl,((BelowD.refl _ _).alloc (Nat.le_refl _) _).alloc (by simp) _⟩
theorem coreOf_any (a b c:Int) (x y:Value) (w:World) :
  Calls Tryz.prog 169 #[.agg #[.int .u64 a,.int .u64 b,.int .u64 c,x,y]] w fun e w'=>e=.returned (.agg #[.int .u64 a,.int .u64 b,.int .u64 c])∧Below w.heap.size w w':=dropD (coreOf_anyD a b c x y w)

def CoresAt (u v:Ver) (i:Nat):Prop:=i=0∨(i=1∧u.a=v.a)∨(i=2∧u.a=v.a∧u.b=v.b)
def CoresJ (w:World) (u v:Ver) (a':Act) (w':World):Prop :=
 ∃ (i:Nat) (u6 u7 u8 u9 u10 u11 u12 u13 u14 u15 u16 u17 u18 u19 u20 u21 u22 u23 u24:Value),BelowD w.heap.size w w'∧At3 w' w.heap.size u.a u.b u.c∧At3 w' (w.heap.size+1) v.a v.b v.c∧CoresAt u v i∧¬ (u.a=v.a∧u.b=v.b∧u.c=v.c) ∧
  a'={ tmps:=#[.agg #[u.a,u.b,u.c],.agg #[v.a,v.b,v.c],.pointer (some ⟨w.heap.size,0,none⟩),.pointer (some ⟨w.heap.size+1,0,none⟩),.int .i64 0,.int .i64 i,u6,u7,u8,u9,u10,u11,u12,u13,u14,u15,u16,u17,u18,u19,u20,u21,u22,u23,u24],defers:=[] }
def CoresM (a':Act) (_:World):Nat:=4 - (intOf (a'.tmps.getD 5 undef)).toNat
theorem beq_no {x y:Nat} (h:x≠y):((x:Int) == (y:Int))=false:=by simp; omega
theorem beq_yes {x y:Nat} (h:x=y):((x:Int) == (y:Int))=true:=by simp [h]

theorem cores_anyD (u v:Ver) (w:World) :
  Calls Tryz.prog 168 #[.agg #[u.a,u.b,u.c],.agg #[v.a,v.b,v.c]] w fun e w'=>e=.returned (.int .i64 (cmpCore u v))∧BelowD w.heap.size w w':=by
 have HBa:Hid (BelowD w.heap.size w ((w.alloc (.cells #[u.a,u.b,u.c] 250)).alloc (.cells #[v.a,v.b,v.c] 250))):=((BelowD.refl _ _).alloc (Nat.le_refl _) _).alloc (by simp) _
 have K1:Hid (At3 ((w.alloc (.cells #[u.a,u.b,u.c] 250)).alloc (.cells #[v.a,v.b,v.c] 250)) w.heap.size u.a u.b u.c):=(At3.new w 250 _ _ _).kept ((Below.refl _ _).alloc (Nat.le_refl _) _) (by simp)
 have K2:Hid (At3 ((w.alloc (.cells #[u.a,u.b,u.c] 250)).alloc (.cells #[v.a,v.b,v.c] 250)) (w.heap.size+1) v.a v.b v.c):=by
  have:=At3.new (w.alloc (.cells #[u.a,u.b,u.c] 250)) 250 v.a v.b v.c
  rw [size_alloc] at this; exact this
 go_enter Tryz.func168,Tryz.ntmps168
 go_wp2
 refine wp_scope_back 0 (CoresJ w u v) CoresM rfl ?_ ?_
 ·rintro a' w1 ⟨i,u6,u7,u8,u9,u10,u11,u12,u13,u14,u15,u16,u17,u18,u19,u20,u21,u22,u23,u24,hb1,k1,k2,hat,hne,rfl⟩
  have HB1:=Lib.hid hb1
  have L1:=Lib.hid k1
  have L2:=Lib.hid k2
  have hz1:=k2.1
  obtain ⟨_,_,x0,x1,x2⟩:=k1
  obtain ⟨_,_,y0,y1,y2⟩:=k2
  clear hb1
  rcases hat with rfl | ⟨rfl,h1⟩ | ⟨rfl,h1,h2⟩
  ·by_cases h:u.a=v.a
   ·have e1:=beq_yes h
    have HH:=Lib.hid h
    have HN:=Lib.hid hne
    clear h hne
    go_wp2
    go_still (by kernel_rfl)
    have HB2:=Lib.hid HB1.out.drew
    have M1:=Lib.hid (L1.out.kept (B:=w1.heap.size) (Below.refl _ _).drew (by omega))
    have M2:=Lib.hid (L2.out.kept (B:=w1.heap.size) (Below.refl _ _).drew (by omega))
    go_wp2
    go_step3
    refine ⟨rfl,⟨1,_,_,_,_,_,_,_,_,_,_,_,_,_,_,_,_,_,_,_,HB2.out,M1.out,M2.out,.inr (.inl ⟨rfl,HH.out⟩),HN.out,rfl⟩,?_⟩
    simp [CoresM,intOf]
   ·have e1:=beq_no h
    have HF:Hid (cmpCore u v=ordN u.a v.a):=cmpCore_1 h
    clear h hne
    go_wp2
    go_still (by kernel_rfl)
    have HB2:=Lib.hid HB1.out.drew
    have M1:=Lib.hid (L1.out.kept (B:=w1.heap.size) (Below.refl _ _).drew (by omega))
    have M2:=Lib.hid (L2.out.kept (B:=w1.heap.size) (Below.refl _ _).drew (by omega))
    clear x0 x1 x2 y0 y1 y2
    change Exit.then _ _ _ _ w1.drew
    generalize w1.drew=w2 at HB2 M1 M2 ⊢
    obtain ⟨_,_,x0,x1,x2⟩:=M1.out
    obtain ⟨_,_,y0,y1,y2⟩:=M2.out
    go_wp2
    go_still_tail 6,(by kernel_rfl)
    change wpList _ _ _ _ _ w2.drew
    have HB3:=Lib.hid HB2.out.drew
    generalize w2.drew=w3 at HB3 ⊢
    go_wp2_with fail
    refine (cmpU_any _ _ _).mono ?_
    rintro e w' ⟨rfl,rfl⟩
    go_wp2
    simp only [Exit.jump]
    go_ret
    exact ⟨by rw [HF.out]; rfl,HB3.out⟩
  ·have H1:=Lib.hid h1
   clear h1
   by_cases h:u.b=v.b
   ·have e1:=beq_yes h
    have HH:=Lib.hid h
    have HN:=Lib.hid hne
    clear h hne
    go_wp2
    go_still (by kernel_rfl)
    have HB2:=Lib.hid HB1.out.drew
    have M1:=Lib.hid (L1.out.kept (B:=w1.heap.size) (Below.refl _ _).drew (by omega))
    have M2:=Lib.hid (L2.out.kept (B:=w1.heap.size) (Below.refl _ _).drew (by omega))
    go_wp2
    go_step3
    refine ⟨rfl,⟨2,_,_,_,_,_,_,_,_,_,_,_,_,_,_,_,_,_,_,_,HB2.out,M1.out,M2.out,.inr (.inr ⟨rfl,H1.out,HH.out⟩),HN.out,rfl⟩,?_⟩
    simp [CoresM,intOf]
   ·have e1:=beq_no h
    have HF:Hid (cmpCore u v=ordN u.b v.b):=cmpCore_2 H1.out h
    clear h hne
    go_wp2
    go_still (by kernel_rfl)
    have HB2:=Lib.hid HB1.out.drew
    have M1:=Lib.hid (L1.out.kept (B:=w1.heap.size) (Below.refl _ _).drew (by omega))
    have M2:=Lib.hid (L2.out.kept (B:=w1.heap.size) (Below.refl _ _).drew (by omega))
    clear x0 x1 x2 y0 y1 y2
    change Exit.then _ _ _ _ w1.drew
    generalize w1.drew=w2 at HB2 M1 M2 ⊢
    obtain ⟨_,_,x0,x1,x2⟩:=M1.out
    obtain ⟨_,_,y0,y1,y2⟩:=M2.out
    go_wp2
    go_still_tail 6,(by kernel_rfl)
    change wpList _ _ _ _ _ w2.drew
    have HB3:=Lib.hid HB2.out.drew
    generalize w2.drew=w3 at HB3 ⊢
    go_wp2_with fail
    refine (cmpU_any _ _ _).mono ?_
    rintro e w' ⟨rfl,rfl⟩
    go_wp2
    simp only [Exit.jump]
    go_ret
    exact ⟨by rw [HF.out]; rfl,HB3.out⟩
  ·have H1:=Lib.hid h1
   have H2:=Lib.hid h2
   clear h1 h2
   by_cases h:u.c=v.c
   ·exact absurd ⟨H1.out,H2.out,h⟩ hne
   ·have e1:=beq_no h
    have HF:Hid (cmpCore u v=ordN u.c v.c):=cmpCore_3 H1.out H2.out
    clear h hne
    go_wp2
    go_still (by kernel_rfl)
    have HB2:=Lib.hid HB1.out.drew
    have M1:=Lib.hid (L1.out.kept (B:=w1.heap.size) (Below.refl _ _).drew (by omega))
    have M2:=Lib.hid (L2.out.kept (B:=w1.heap.size) (Below.refl _ _).drew (by omega))
    clear x0 x1 x2 y0 y1 y2
    change Exit.then _ _ _ _ w1.drew
    generalize w1.drew=w2 at HB2 M1 M2 ⊢
    obtain ⟨_,_,x0,x1,x2⟩:=M1.out
    obtain ⟨_,_,y0,y1,y2⟩:=M2.out
    go_wp2
    go_still_tail 6,(by kernel_rfl)
    change wpList _ _ _ _ _ w2.drew
    have HB3:=Lib.hid HB2.out.drew
    generalize w2.drew=w3 at HB3 ⊢
    go_wp2_with fail
    refine (cmpU_any _ _ _).mono ?_
    rintro e w' ⟨rfl,rfl⟩
    go_wp2
    simp only [Exit.jump]
    go_ret
    exact ⟨by rw [HF.out]; rfl,HB3.out⟩
 ·intro HP
  by_cases hn:u.a=v.a∧u.b=v.b∧u.c=v.c
  ·have HF:Hid (cmpCore u v=0):=by
    unfold Hid
    rw [cmpCore_3 hn.1 hn.2.1]; exact ordN_eq hn.2.2
   have kq:=fun W=>run_eq3 u.a u.b u.c v.a v.b v.c W
   rw [beq_yes hn.1,beq_yes hn.2.1,beq_yes hn.2.2] at kq
   clear hn
   go_wp2
   simp only [Exit.jump]
   go_ret
   exact ⟨by rw [HF.out]; rfl,HBa.out⟩
  ·have HN:=Lib.hid hn
   have hq:(((u.a:Int) == (v.a:Int)) && (((u.b:Int) == (v.b:Int)) && ((u.c:Int) == (v.c:Int))))=false:=by
    rw [← Bool.not_eq_true]; simp only [Bool.and_eq_true,beq_iff_eq]; omega
   have kq:=fun W=>run_eq3 u.a u.b u.c v.a v.b v.c W
   rw [hq] at kq
   clear hn hq
   go_wp2
   go_step3
   rename_i hK
   exact hK _ _ (HP.out _ _ ⟨0,_,_,_,_,_,_,_,_,_,_,_,_,_,_,_,_,_,_,_,HBa.out,K1.out,K2.out,.inl rfl,HN.out,rfl⟩)
end Go.Proofs.YtgakcdcfblgagaaGreatDoor.Prec
namespace Go.Proofs.YtgakcdcfblgagaaGreatDoor.Span
open Go.RowKit Num Ident Semver Prec

structure Cut where
 kind:Int
 v:Ver
deriving DecidableEq
structure Sp where
 lo:Cut
 hi:Cut
deriving DecidableEq
def low:Cut:=⟨0,noVer⟩
def high:Cut:=⟨3,noVer⟩
instance:Inhabited Sp:=⟨⟨low,low⟩⟩
def ofVer (c:Cut):Bool:=decide (c.kind=1∨c.kind=2)
theorem ofVer_iff (c:Cut):ofVer c=true↔c.kind=1∨c.kind=2:=by simp [ofVer]
theorem ofVer_no (c:Cut):ofVer c=false↔¬ (c.kind=1∨c.kind=2):=by rw [← ofVer_iff]; cases ofVer c <;> simp
def right (c:Cut):Bool:=if c.kind=0∨c.kind=3 then sameV c.v noVer else if c.kind=1∨c.kind=2 then goodV c.v && decide (c.v.build.length=0) else false
theorem right_ends {c:Cut} (h:c.kind=0∨c.kind=3):right c=sameV c.v noVer:=by unfold right; rw [if_pos h]
theorem right_ver {c:Cut} (h:c.kind=1∨c.kind=2):right c=(goodV c.v && decide (c.v.build.length=0)):=by unfold right; rw [if_neg (by omega),if_pos h]
theorem right_none {c:Cut} (h1:¬ (c.kind=0∨c.kind=3)) (h2:¬ (c.kind=1∨c.kind=2)):right c=false:=by unfold right; rw [if_neg h1,if_neg h2]
def ordI (x y:Int):Int:=if x<y then -1 else if y<x then 1 else 0
theorem ordI_lt {x y:Int} (h:x<y):ordI x y=-1:=by unfold ordI; rw [if_pos h]
theorem ordI_gt {x y:Int} (h:y<x):ordI x y=1:=by unfold ordI; rw [if_neg (by omega),if_pos h]
theorem ordI_eq {x y:Int} (h:x=y):ordI x y=0:=by unfold ordI; rw [if_neg (by omega),if_neg (by omega)]
theorem ordI_cases (x y:Int):(x<y∧ordI x y=-1)∨(x=y∧ordI x y=0)∨(y<x∧ordI x y=1):=by
 rcases Int.lt_trichotomy x y with h | h | h
 ·exact .inl ⟨h,ordI_lt h⟩
 ·exact .inr (.inl ⟨h,ordI_eq h⟩)
 ·exact .inr (.inr ⟨h,ordI_gt h⟩)
theorem ordI_ordr:Ordr ordI:=by
 refine ⟨fun x y=>?_,fun x y z h1 h2=>?_⟩
 ·rcases ordI_cases x y with ⟨a,b⟩ | ⟨a,b⟩ | ⟨a,b⟩ <;> rcases ordI_cases y x with ⟨c,d⟩ | ⟨c,d⟩ | ⟨c,d⟩ <;> omega
 ·rcases ordI_cases x y with ⟨a,b⟩ | ⟨a,b⟩ | ⟨a,b⟩ <;> rcases ordI_cases y z with ⟨c,d⟩ | ⟨c,d⟩ | ⟨c,d⟩ <;> rcases ordI_cases x z with ⟨e,f⟩ | ⟨e,f⟩ | ⟨e,f⟩ <;> omega
def stand (a b:Cut):Int:=if ofVer a=true∧ofVer b=true∧cmpV a.v b.v≠0 then cmpV a.v b.v else ordI a.kind b.kind
def cmpC (a b:Cut):Int:=if right a=true∧right b=true then stand a b else ordI a.kind b.kind
theorem cmpC_right {a b:Cut} (h1:right a=true) (h2:right b=true):cmpC a b=stand a b:=by unfold cmpC; rw [if_pos ⟨h1,h2⟩]
def kc (c:Cut):Int:=if ofVer c=true then 1 else c.kind
def vk (c:Cut):Ver:=if ofVer c=true then c.v else noVer
theorem stand_lex (a b:Cut):stand a b=lex (fun x y=>ordI (kc x) (kc y)) (lex (fun x y=>cmpV (vk x) (vk y)) fun x y=>ordI x.kind y.kind) a b:=by
 unfold stand
 by_cases h1:ofVer a=true
 ·by_cases h2:ofVer b=true
  ·have e1:ordI (kc a) (kc b)=0:=ordI_eq (by unfold kc; rw [if_pos h1,if_pos h2])
   have e2:cmpV (vk a) (vk b)=cmpV a.v b.v:=by unfold vk; rw [if_pos h1,if_pos h2]
   refine Eq.trans ?_ (lex_yes (f:=fun x y=>ordI (kc x) (kc y)) e1).symm
   by_cases h3:cmpV a.v b.v=0
   ·rw [if_neg (fun h=>h.2.2 h3)]
    exact (lex_yes (f:=fun x y=>cmpV (vk x) (vk y)) (g:=fun x y:Cut=>ordI x.kind y.kind) (by show cmpV (vk a) (vk b)=0; rw [e2]; exact h3)).symm
   ·rw [if_pos ⟨h1,h2,h3⟩,← e2]
    exact (lex_no (f:=fun x y=>cmpV (vk x) (vk y)) (g:=fun x y:Cut=>ordI x.kind y.kind) (by show cmpV (vk a) (vk b)≠0; rw [e2]; exact h3)).symm
  ·rw [if_neg (fun h=>h2 h.2.1)]
   have ha:=(ofVer_iff a).1 h1
   have hb:=(ofVer_no b).1 (by simpa using h2)
   have e1:kc a=1:=by unfold kc; rw [if_pos h1]
   have e2:kc b=b.kind:=by unfold kc; rw [if_neg h2]
   have e3:ordI (kc a) (kc b)=ordI a.kind b.kind:=by
    rw [e1,e2]
    rcases ordI_cases 1 b.kind with ⟨c,d⟩ | ⟨c,d⟩ | ⟨c,d⟩ <;> rcases ordI_cases a.kind b.kind with ⟨e,f⟩ | ⟨e,f⟩ | ⟨e,f⟩ <;> omega
   refine Eq.trans e3.symm (lex_no (f:=fun x y=>ordI (kc x) (kc y)) ?_).symm
   show ordI (kc a) (kc b)≠0
   rw [e3]; rcases ordI_cases a.kind b.kind with ⟨e,f⟩ | ⟨e,f⟩ | ⟨e,f⟩ <;> omega
 ·rw [if_neg (fun h=>h1 h.1)]
  have ha:=(ofVer_no a).1 (by simpa using h1)
  have e1:kc a=a.kind:=by unfold kc; rw [if_neg h1]
  have e0:vk a=noVer:=by unfold vk; rw [if_neg h1]
  by_cases h2:ofVer b=true
  ·have hb:=(ofVer_iff b).1 h2
   have e2:kc b=1:=by unfold kc; rw [if_pos h2]
   have e3:ordI (kc a) (kc b)=ordI a.kind b.kind:=by
    rw [e1,e2]
    rcases ordI_cases a.kind 1 with ⟨c,d⟩ | ⟨c,d⟩ | ⟨c,d⟩ <;> rcases ordI_cases a.kind b.kind with ⟨e,f⟩ | ⟨e,f⟩ | ⟨e,f⟩ <;> omega
   refine Eq.trans e3.symm (lex_no (f:=fun x y=>ordI (kc x) (kc y)) ?_).symm
   show ordI (kc a) (kc b)≠0
   rw [e3]; rcases ordI_cases a.kind b.kind with ⟨e,f⟩ | ⟨e,f⟩ | ⟨e,f⟩ <;> omega
  ·have e2:kc b=b.kind:=by unfold kc; rw [if_neg h2]
   have e4:vk b=noVer:=by unfold vk; rw [if_neg h2]
   by_cases h3:ordI (kc a) (kc b)=0
   ·refine Eq.trans ?_ (lex_yes (f:=fun x y=>ordI (kc x) (kc y)) h3).symm
    exact (lex_yes (f:=fun x y=>cmpV (vk x) (vk y)) (g:=fun x y:Cut=>ordI x.kind y.kind) (by show cmpV (vk a) (vk b)=0; rw [e0,e4]; exact cmpV_ordr.self noVer)).symm
   ·refine Eq.trans ?_ (lex_no (f:=fun x y=>ordI (kc x) (kc y)) h3).symm
    show ordI a.kind b.kind=ordI (kc a) (kc b)
    rw [e1,e2]
theorem stand_ordr:Ordr stand:=by
 have h:stand=lex (fun x y=>ordI (kc x) (kc y)) (lex (fun x y=>cmpV (vk x) (vk y)) fun x y=>ordI x.kind y.kind):=by
  funext a b; exact stand_lex a b
 rw [h]
 exact (ordI_ordr.on kc).lex ((cmpV_ordr.on vk).lex (ordI_ordr.on Cut.kind))
theorem stand_flip (a b:Cut):stand b a=0 - stand a b:=stand_ordr.flip a b
theorem stand_self (a:Cut):stand a a=0:=stand_ordr.self a
theorem le_le {a b c:Cut} (h1:stand a b≤0) (h2:stand b c≤0):stand a c≤0:=stand_ordr.trans a b c h1 h2
theorem le_lt {a b c:Cut} (h1:stand a b≤0) (h2:stand b c<0):stand a c<0:=by
 have h3:=le_le h1 (show stand b c≤0 by omega)
 rcases Int.lt_or_eq_of_le h3 with h | h
 ·exact h
 ·have h4:=stand_flip a c
  have h5:=le_le (show stand c a≤0 by omega) h1
  have h6:=stand_flip b c
  omega
theorem lt_le {a b c:Cut} (h1:stand a b<0) (h2:stand b c≤0):stand a c<0:=by
 have h3:=le_le (show stand a b≤0 by omega) h2
 rcases Int.lt_or_eq_of_le h3 with h | h
 ·exact h
 ·have h4:=stand_flip a c
  have h5:=le_le h2 (show stand c a≤0 by omega)
  have h6:=stand_flip a b
  omega
theorem lt_lt {a b c:Cut} (h1:stand a b<0) (h2:stand b c<0):stand a c<0:=le_lt (by omega) h2
theorem not_lt {a b:Cut} (h:¬ stand a b<0):stand b a≤0:=by have:=stand_flip a b; omega
theorem not_le {a b:Cut} (h:¬ stand a b≤0):stand b a<0:=by have:=stand_flip a b; omega
theorem lt_not {a b:Cut} (h:stand a b<0):¬ stand b a≤0:=by have:=stand_flip a b; omega
theorem le_not {a b:Cut} (h:stand a b≤0):¬ stand b a<0:=by have:=stand_flip a b; omega
theorem like_flip {a b:Cut} (h:stand a b=0):stand b a=0:=by have:=stand_flip a b; omega

def inOne (s:Sp) (c:Cut):Prop:=stand s.lo c≤0∧stand c s.hi<0
def inS (l:List Sp) (c:Cut):Prop:=∃ s ∈ l,inOne s c
def cnt (s:Sp):Bool:=right s.lo && (right s.hi && decide (stand s.lo s.hi<0))
theorem cnt_iff (s:Sp):cnt s=true↔right s.lo=true∧right s.hi=true∧stand s.lo s.hi<0:=by simp [cnt]
def inR (l:List Sp) (c:Cut):Prop:=∃ s ∈ l,cnt s=true∧inOne s c
structure Norm (l:List Sp):Prop where
 cnt:∀ s ∈ l,cnt s=true
 gap:l.Pairwise fun s t=>stand s.hi t.lo<0
theorem Norm.nil:Norm []:=⟨(fun s h=>by cases h),List.Pairwise.nil⟩
theorem Norm.tail {s:Sp} {l:List Sp} (h:Norm (s :: l)):Norm l:=⟨fun t ht=>h.cnt t (List.mem_cons_of_mem _ ht),(List.pairwise_cons.1 h.gap).2⟩
theorem Norm.ahead {s:Sp} {l:List Sp} (h:Norm (s :: l)):∀ t ∈ l,stand s.hi t.lo<0:=(List.pairwise_cons.1 h.gap).1
theorem Norm.inR {l:List Sp} (h:Norm l) (c:Cut):inR l c↔inS l c:=⟨fun ⟨s,hs,_,hi⟩=>⟨s,hs,hi⟩,fun ⟨s,hs,hi⟩=>⟨s,hs,h.cnt s hs,hi⟩⟩
inductive Like:List Sp→List Sp→Prop
 | nil:Like [] []
 | cons {s t:Sp} {l m:List Sp}:stand s.lo t.lo=0→stand s.hi t.hi=0→Like l m→Like (s :: l) (t :: m)

theorem sameV_none {v:Ver} (h:sameV v noVer=true):v=noVer:=by
 unfold sameV at h
 rw [Bool.and_eq_true,decide_eq_true_eq,Bool.and_eq_true,sameB_iff,sameB_iff] at h
 obtain ⟨⟨h1,h2,h3⟩,h4,h5⟩:=h
 cases v; simp only [noVer] at *; subst h1; subst h2; subst h3; subst h4; subst h5; rfl
theorem good_len (pre:Bool):∀ (xs:List (List UInt8)) (i:Nat),i≤16→goodFrom pre xs i=true→i+xs.length≤16
 | [],i,hi,_=>by simpa using hi
 | x :: r,i,hi,h=>by
  rw [goodFrom] at h
  simp only [Bool.and_eq_true,beq_iff_eq] at h
  have h1:=(fault_pos h.1.1).2.2
  have:=good_len pre r (i+1) (by omega) h.2
  simp; omega
theorem right_few {c:Cut} (h:right c=true):c.v.pre.length≤16∧c.v.build=[]:=by
 by_cases h1:c.kind=0∨c.kind=3
 ·rw [right_ends h1] at h
  rw [sameV_none h]; exact ⟨by simp [noVer],rfl⟩
 ·by_cases h2:c.kind=1∨c.kind=2
  ·rw [right_ver h2,Bool.and_eq_true,decide_eq_true_eq] at h
   refine ⟨?_,List.eq_nil_of_length_eq_zero h.2⟩
   have hg:=h.1
   unfold goodV at hg
   rw [Bool.and_eq_true,Bool.and_eq_true] at hg
   have:=good_len true c.v.pre 0 (by omega) hg.2.1
   omega
  ·rw [right_none h1 h2] at h; cases h
theorem right_bare {c:Cut} (h:right c=true):bare c.v=c.v:=by
 have:=(right_few h).2
 unfold bare; rw [← this]
theorem low_right:right low=true:=by rw [right_ends (.inl rfl)]; exact sameV_self noVer
theorem high_right:right high=true:=by rw [right_ends (.inr rfl)]; exact sameV_self noVer
theorem low_high:stand low high<0:=by
 unfold stand; rw [if_neg (by rintro ⟨h,_⟩; exact absurd h (by decide))]; exact (show (-1:Int)<0 by omega)
theorem right_kind {c:Cut} (h:right c=true):c.kind=0∨c.kind=1∨c.kind=2∨c.kind=3:=by
 by_cases h1:c.kind=0∨c.kind=3
 ·omega
 ·by_cases h2:c.kind=1∨c.kind=2
  ·omega
  ·rw [right_none h1 h2] at h; cases h
theorem stand_kind {a b:Cut} (h:¬ (ofVer a=true∧ofVer b=true)):stand a b=ordI a.kind b.kind:=by
 unfold stand; rw [if_neg (fun k=>h ⟨k.1,k.2.1⟩)]
theorem low_le {c:Cut} (h:right c=true):stand low c≤0:=by
 rw [stand_kind (by rintro ⟨h,_⟩; exact absurd h (by decide))]
 have:=right_kind h
 have e:low.kind=0:=rfl
 rcases ordI_cases low.kind c.kind with ⟨a,b⟩ | ⟨a,b⟩ | ⟨a,b⟩ <;> omega
theorem le_high {c:Cut} (h:right c=true):stand c high≤0:=by
 rw [stand_kind (by rintro ⟨_,h⟩; exact absurd h (by decide))]
 have:=right_kind h
 have e:high.kind=3:=rfl
 rcases ordI_cases c.kind high.kind with ⟨a,b⟩ | ⟨a,b⟩ | ⟨a,b⟩ <;> omega

def aheadOf (v:Ver):Cut:=⟨1,bare v⟩
def behindOf (v:Ver):Cut:=⟨2,bare v⟩
theorem ahead_behind (v:Ver):stand (aheadOf v) (behindOf v)<0:=by
 have h:cmpV (bare v) (bare v)=0:=cmpV_ordr.self _
 unfold stand
 rw [if_neg (fun k=>k.2.2 h)]; exact (show (-1:Int)<0 by omega)
theorem behind_le (c:Cut) (v:Ver):stand (aheadOf v) c<0↔stand (behindOf v) c≤0:=by
 constructor
 ·intro hc
  by_cases hv:ofVer c=true
  ·have hk:=(ofVer_iff c).1 hv
   by_cases h0:cmpV (bare v) c.v=0
   ·have e1:stand (aheadOf v) c=ordI 1 c.kind:=by unfold stand; rw [if_neg (fun k=>k.2.2 h0)]; rfl
    have e2:stand (behindOf v) c=ordI 2 c.kind:=by unfold stand; rw [if_neg (fun k=>k.2.2 h0)]; rfl
    rw [e1] at hc
    rw [e2]
    rcases ordI_cases 1 c.kind with ⟨a,b⟩ | ⟨a,b⟩ | ⟨a,b⟩ <;> rcases ordI_cases 2 c.kind with ⟨e,f⟩ | ⟨e,f⟩ | ⟨e,f⟩ <;> omega
   ·have e1:stand (aheadOf v) c=cmpV (bare v) c.v:=by unfold stand; rw [if_pos ⟨rfl,hv,h0⟩]; rfl
    have e2:stand (behindOf v) c=cmpV (bare v) c.v:=by unfold stand; rw [if_pos ⟨rfl,hv,h0⟩]; rfl
    omega
  ·have hk:=(ofVer_no c).1 (by simpa using hv)
   rw [stand_kind (fun k=>hv k.2)] at hc ⊢
   have e1:(aheadOf v).kind=1:=rfl
   have e2:(behindOf v).kind=2:=rfl
   rcases ordI_cases (aheadOf v).kind c.kind with ⟨a,b⟩ | ⟨a,b⟩ | ⟨a,b⟩ <;> rcases ordI_cases (behindOf v).kind c.kind with ⟨e,f⟩ | ⟨e,f⟩ | ⟨e,f⟩ <;> omega
 ·intro hc
  exact lt_le (ahead_behind v) hc

end Go.Proofs.YtgakcdcfblgagaaGreatDoor.Span
