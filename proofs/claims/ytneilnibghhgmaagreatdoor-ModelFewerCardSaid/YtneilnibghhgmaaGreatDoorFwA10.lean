/-
  What the theorem of the last text needs of these: SpCuts, SpOwn, SpCame, RgFore, SpSort. Conditions: as each theorem states.
-/
import Derived.Test.YtneilnibghhgmaaGreatDoorFwA1
import Derived.Test.YtneilnibghhgmaaGreatDoorFwA2
import Derived.Test.YtneilnibghhgmaaGreatDoorFwA4
import Derived.Test.YtneilnibghhgmaaGreatDoorFwA5
import Derived.Test.YtneilnibghhgmaaGreatDoorFwA8
import Derived.Test.YtneilnibghhgmaaGreatDoorFwA9
import Derived.Deep.Slices
import Derived.Deep.Fields
import Derived.ChangeSame
import Derived.Test.YtneilnibghhgmaaGreatDoorShelfSort
import Derived.Shelf.SlSortCmp.NoneTotal
import Derived.Lib.QuietBelow
set_option maxRecDepth 100000
set_option maxHeartbeats 25600000
namespace Go.Proofs.YtneilnibghhgmaaGreatDoor.Span
open Go.RowKit Num Ident Semver Prec

theorem cmpI_any (x y:Int) (w:World) :
  Calls Tryz.prog 151 #[.int .i64 x,.int .i64 y] w fun e w'=>e=.returned (.int .i64 (ordI x y))∧w=w':=by
 rcases Int.lt_trichotomy x y with h | h | h
 ·have HF:=Lib.hid (ordI_lt h)
  go_enter Tryz.func151,Tryz.ntmps151
  go_wp2
  go_ret
  exact ⟨by rw [HF.out]; rfl,rfl⟩
 ·have HF:=Lib.hid (ordI_eq h)
  subst h
  go_enter Tryz.func151,Tryz.ntmps151
  go_wp2
  go_ret
  exact ⟨by rw [HF.out]; rfl,rfl⟩
 ·have HF:=Lib.hid (ordI_gt h)
  go_enter Tryz.func151,Tryz.ntmps151
  go_wp2
  go_ret
  exact ⟨by rw [HF.out]; rfl,rfl⟩
theorem same_none (v:Ver) (A:Option Addr) (c:Nat) (B:Option Addr) (d:Nat) (w:World) (r1:SRow w A v.pre.length v.pre) (r2:SRow w B v.build.length v.build) (h1:v.pre.length≤maxLen) (h2:v.build.length≤maxLen) :
  Calls Tryz.prog 124 #[.agg #[v.a,v.b,v.c,.slice A v.pre.length c,.slice B v.build.length d],.agg #[.int .u64 0,.int .u64 0,.int .u64 0,.slice none 0 0,.slice none 0 0]] w fun e w'=>e=.returned (.bool (sameV v noVer))∧Below w.heap.size w w' :=
 same_parts A v.pre.length c v.pre B v.build.length d v.build none 0 0 [] none 0 0 [] v.a v.b v.c 0 0 0 w r1 r2 (SRow.none_ _ _) (SRow.none_ _ _) h1 h2 (Nat.zero_le _) (Nat.zero_le _)

theorem right_any (r:RCut) (w:World) (h:Lies w r) :
  Calls Tryz.prog 150 #[.agg #[r.kind,r.v.a,r.v.b,r.v.c,.slice r.A r.v.pre.length r.c,.slice r.B r.v.build.length r.d]] w fun e w'=>e=.returned (.bool (right r.cut))∧Below w.heap.size w w':=by
 have HBa:Hid (Below w.heap.size w (w.alloc r)):=(Below.refl _ _).alloc (Nat.le_refl _) _
 have HL:=Lib.hid (h.kept HBa.out)
 have K0:Hid (At6B (w.alloc r) w.heap.size r.kind r.v.a r.v.b r.v.c (.slice r.A r.v.pre.length r.c) (.slice r.B r.v.build.length r.d)):=At6B.new w _ _ _ _ _ _ _
 clear h
 have HR:Hid (right r.cut=right ⟨r.kind,r.v⟩):=rfl
 by_cases h0:r.kind=0∨r.kind=3
 ·have HF:Hid (right r.cut=sameV r.v noVer):=right_ends h0
  have hs:(r.kind == 0)=true∨((r.kind == 0)=false∧(r.kind == 3)=true):=by
   rcases h0 with h0 | h0
   ·left; simp [h0]
   ·right; simp [h0]
  clear h0 HR
  rcases hs with e0 | ⟨e0,e3⟩
  all_goals
   go_enter Tryz.func150,Tryz.ntmps150
   go_upto_region 1 with (fail)
   generalize (w.alloc r)=W at HBa HL K0 ⊢
   obtain ⟨hz,_,x0,x1,x2,x3,x4,x5⟩:=K0.out
   go_wp2_with fail
   refine (same_none r.v r.A r.c r.B r.d _ HL.out.pre HL.out.build HL.out.fpre.1 HL.out.fbuild.1).mono ?_
   rintro e w1 ⟨rfl,hb1⟩
   have B1:=Lib.hid (HBa.out.trans (hb1.mono HBa.out.size))
   clear hb1 x0 x1 x2 x3 x4 x5
   go_wp2
   go_ret
   exact ⟨by rw [HF.out]; rfl,B1.out⟩
 have e0:(r.kind == 0)=false:=by simp; omega
 have e3:(r.kind == 3)=false:=by simp; omega
 by_cases h1:r.kind=1∨r.kind=2
 ·have HF:Hid (right r.cut=(goodV r.v && decide (r.v.build.length=0))):=right_ver h1
  have hs:(r.kind == 1)=true∨((r.kind == 1)=false∧(r.kind == 2)=true):=by
   rcases h1 with h1 | h1
   ·left; simp [h1]
   ·right; simp [h1]
  clear h0 h1 HR
  rcases hs with e1 | ⟨e1,e2⟩
  all_goals
   go_enter Tryz.func150,Tryz.ntmps150
   go_upto_region 1 with (fail)
   generalize (w.alloc r)=W at HBa HL K0 ⊢
   obtain ⟨hz,_,x0,x1,x2,x3,x4,x5⟩:=K0.out
   go_wp2_with fail
   refine (vgood_any r.v r.A r.c r.B r.d _ HL.out.pre HL.out.build HL.out.fpre.1 HL.out.fbuild.1 HL.out.fpre.2 HL.out.fbuild.2).mono ?_
   rintro e w1 ⟨rfl,hb1⟩
   have B1:=Lib.hid (HBa.out.trans (hb1.mono HBa.out.size))
   have K1:=Lib.hid (K0.out.kept hb1 hz)
   clear hb1 x0 x1 x2 x3 x4 x5 hz
   obtain ⟨hz,_,x0,x1,x2,x3,x4,x5⟩:=K1.out
   generalize goodV r.v=g at HF ⊢
   cases g
   ·go_wp2
    go_ret
    exact ⟨by rw [HF.out]; rfl,B1.out⟩
   ·by_cases hb:r.v.build.length=0
    ·have HF2:Hid (right r.cut=true):=by have:=HF.out; rw [this,decide_eq_true hb]; rfl
     have eb:((r.v.build.length:Int) == 0)=true:=by rw [beq_iff_eq]; omega
     clear HF hb
     go_wp2
     go_ret
     exact ⟨by rw [HF2.out]; rfl,B1.out⟩
    ·have HF2:Hid (right r.cut=false):=by have:=HF.out; rw [this,decide_eq_false hb]; rfl
     have eb:((r.v.build.length:Int) == 0)=false:=by rw [beq_eq_false_iff_ne]; omega
     clear HF hb
     go_wp2
     go_ret
     exact ⟨by rw [HF2.out]; rfl,B1.out⟩
 ·have HF:Hid (right r.cut=false):=right_none h0 h1
  have e1:(r.kind == 1)=false:=by simp; omega
  have e2:(r.kind == 2)=false:=by simp; omega
  clear h0 h1 HR
  go_enter Tryz.func150,Tryz.ntmps150
  go_upto_region 1 with (fail)
  generalize (w.alloc r)=W at HBa HL K0 ⊢
  obtain ⟨hz,_,x0,x1,x2,x3,x4,x5⟩:=K0.out
  go_wp2
  go_ret
  exact ⟨by rw [HF.out]; rfl,HBa.out⟩

theorem ofVer_any (r:RCut) (w:World) :
  Calls Tryz.prog 174 #[.agg #[r.kind,r.v.a,r.v.b,r.v.c,.slice r.A r.v.pre.length r.c,.slice r.B r.v.build.length r.d]] w fun e w'=>e=.returned (.bool (ofVer r.cut))∧BelowD w.heap.size w w':=by
 have HBa:Hid (BelowD w.heap.size w (w.alloc r)):=(BelowD.refl _ _).alloc (Nat.le_refl _) _
 have K0:Hid (At6B (w.alloc r) w.heap.size r.kind r.v.a r.v.b r.v.c (.slice r.A r.v.pre.length r.c) (.slice r.B r.v.build.length r.d)):=At6B.new w _ _ _ _ _ _ _
 by_cases h1:r.kind=1
 ·have HF:Hid (ofVer r.cut=true):=(ofVer_iff _).2 (.inl h1)
  have e1:(r.kind == 1)=true:=by simp [h1]
  clear h1
  go_enter Tryz.func174,Tryz.ntmps174
  go_upto_region 1 with (fail)
  generalize (w.alloc r)=W at HBa K0 ⊢
  obtain ⟨hz,_,x0,x1,x2,x3,x4,x5⟩:=K0.out
  go_wp2
  go_ret
  exact ⟨by rw [HF.out]; rfl,HBa.out⟩
 have e1:(r.kind == 1)=false:=by simp; omega
 by_cases h2:r.kind=2
 ·have HF:Hid (ofVer r.cut=true):=(ofVer_iff _).2 (.inr h2)
  have e2:(r.kind == 2)=true:=by simp [h2]
  clear h1 h2
  go_enter Tryz.func174,Tryz.ntmps174
  go_upto_region 1 with (fail)
  generalize (w.alloc r)=W at HBa K0 ⊢
  obtain ⟨hz,_,x0,x1,x2,x3,x4,x5⟩:=K0.out
  go_wp2
  go_ret
  exact ⟨by rw [HF.out]; rfl,HBa.out⟩
 ·have HF:Hid (ofVer r.cut=false):=(ofVer_no _).2 (by show ¬ (r.kind=1∨r.kind=2); omega)
  have e2:(r.kind == 2)=false:=by simp; omega
  clear h1 h2
  go_enter Tryz.func174,Tryz.ntmps174
  go_upto_region 1 with (fail)
  generalize (w.alloc r)=W at HBa K0 ⊢
  obtain ⟨hz,_,x0,x1,x2,x3,x4,x5⟩:=K0.out
  go_wp2
  go_ret
  exact ⟨by rw [HF.out]; rfl,HBa.out⟩

theorem stand_anyD (r s:RCut) (w:World) (h1:Lies w r) (h2:Lies w s) :
  Calls Tryz.prog 152 #[.agg #[r.kind,r.v.a,r.v.b,r.v.c,.slice r.A r.v.pre.length r.c,.slice r.B r.v.build.length r.d],.agg #[s.kind,s.v.a,s.v.b,s.v.c,.slice s.A s.v.pre.length s.c,.slice s.B s.v.build.length s.d]] w fun e w'=>e=.returned (.int .i64 (stand r.cut s.cut))∧BelowD w.heap.size w w':=by
 have HBa:Hid (BelowD w.heap.size w ((w.alloc r).alloc s)):=((BelowD.refl _ _).alloc (Nat.le_refl _) _).alloc (by simp) _
 have HL:=Lib.hid (h1.kept HBa.out.toBelow)
 have HM:=Lib.hid (h2.kept HBa.out.toBelow)
 have K0:Hid (At6B ((w.alloc r).alloc s) w.heap.size r.kind r.v.a r.v.b r.v.c (.slice r.A r.v.pre.length r.c) (.slice r.B r.v.build.length r.d)):=(At6B.new w _ _ _ _ _ _ _).kept ((Below.refl _ _).alloc (Nat.le_refl _) _) (by simp)
 have J0:Hid (At6B ((w.alloc r).alloc s) (w.heap.size+1) s.kind s.v.a s.v.b s.v.c (.slice s.A s.v.pre.length s.c) (.slice s.B s.v.build.length s.d)):=by
  have:=At6B.new (w.alloc r) 161 s.kind s.v.a s.v.b s.v.c (.slice s.A s.v.pre.length s.c) (.slice s.B s.v.build.length s.d)
  rw [size_alloc] at this; exact this
 clear h1 h2
 have HF:Hid (stand r.cut s.cut=if ofVer r.cut=true∧ofVer s.cut=true∧cmpV r.v s.v≠0 then cmpV r.v s.v else ordI r.kind s.kind):=rfl
 go_enter Tryz.func152,Tryz.ntmps152
 go_upto_region 1 with (fail)
 generalize ((w.alloc r).alloc s)=W at HBa HL HM K0 J0 ⊢
 obtain ⟨hz,_,x0,x1,x2,x3,x4,x5⟩:=K0.out
 obtain ⟨hy,_,y0,y1,y2,y3,y4,y5⟩:=J0.out
 go_wp2_with fail
 refine (ofVer_any r _).mono ?_
 rintro e w1 ⟨rfl,hb1⟩
 have K1:=Lib.hid (K0.out.kept hb1.toBelow hz)
 have J1:=Lib.hid (J0.out.kept hb1.toBelow hy)
 have L1:=Lib.hid (HL.out.kept hb1.toBelow)
 have M1:=Lib.hid (HM.out.kept hb1.toBelow)
 have B1:=Lib.hid (HBa.out.trans (hb1.mono HBa.out.size))
 clear hb1 hz hy
 clear x0 x1 x2 x3 x4 x5 y0 y1 y2 y3 y4 y5
 obtain ⟨hz1,_,x0,x1,x2,x3,x4,x5⟩:=K1.out
 obtain ⟨hy1,_,y0,y1,y2,y3,y4,y5⟩:=J1.out
 generalize ofVer r.cut=g1 at HF ⊢
 cases g1
 ·have HF2:Hid (stand r.cut s.cut=ordI r.kind s.kind):=by have:=HF.out; rw [if_neg (by rintro ⟨h,_⟩; cases h)] at this; exact this
  clear HF
  go_wp2_with fail
  refine (cmpI_any _ _ _).mono ?_
  rintro e w' ⟨rfl,rfl⟩
  go_wp2
  go_ret
  exact ⟨by rw [HF2.out]; rfl,B1.out⟩
 go_wp2_with fail
 refine (ofVer_any s _).mono ?_
 rintro e w2 ⟨rfl,hb2⟩
 have K2:=Lib.hid (K1.out.kept hb2.toBelow hz1)
 have J2:=Lib.hid (J1.out.kept hb2.toBelow hy1)
 have L2:=Lib.hid (L1.out.kept hb2.toBelow)
 have M2:=Lib.hid (M1.out.kept hb2.toBelow)
 have B2:=Lib.hid (B1.out.trans (hb2.mono B1.out.size))
 clear hb2 hz1 hy1
 clear x0 x1 x2 x3 x4 x5 y0 y1 y2 y3 y4 y5
 obtain ⟨hz2,_,x0,x1,x2,x3,x4,x5⟩:=K2.out
 obtain ⟨hy2,_,y0,y1,y2,y3,y4,y5⟩:=J2.out
 generalize ofVer s.cut=g2 at HF ⊢
 cases g2
 ·have HF2:Hid (stand r.cut s.cut=ordI r.kind s.kind):=by have:=HF.out; rw [if_neg (by rintro ⟨_,h,_⟩; cases h)] at this; exact this
  clear HF
  go_wp2_with fail
  refine (cmpI_any _ _ _).mono ?_
  rintro e w' ⟨rfl,rfl⟩
  go_wp2
  go_ret
  exact ⟨by rw [HF2.out]; rfl,B2.out⟩
 go_wp2_with fail
 refine (Prec.compare_anyD r.v s.v r.A r.B s.A s.B r.c r.d s.c s.d _ L2.out.pre M2.out.pre L2.out.fpre M2.out.fpre).mono ?_
 rintro e w3 ⟨rfl,hb3⟩
 have K3:=Lib.hid (K2.out.kept hb3.toBelow hz2)
 have J3:=Lib.hid (J2.out.kept hb3.toBelow hy2)
 have B3:=Lib.hid (B2.out.trans (hb3.mono B2.out.size))
 clear hb3 hz2 hy2
 clear x0 x1 x2 x3 x4 x5 y0 y1 y2 y3 y4 y5
 obtain ⟨hz3,_,x0,x1,x2,x3,x4,x5⟩:=K3.out
 obtain ⟨hy3,_,y0,y1,y2,y3,y4,y5⟩:=J3.out
 generalize cmpV r.v s.v=c at HF ⊢
 by_cases hc:c=0
 ·have HF2:Hid (stand r.cut s.cut=ordI r.kind s.kind):=by have:=HF.out; rw [if_neg (fun h=>h.2.2 hc)] at this; exact this
  subst hc
  clear HF
  go_wp2_with fail
  refine (cmpI_any _ _ _).mono ?_
  rintro e w' ⟨rfl,rfl⟩
  go_wp2
  go_ret
  exact ⟨by rw [HF2.out]; rfl,B3.out⟩
 ·have HF2:Hid (stand r.cut s.cut=c):=by have:=HF.out; rw [if_pos (by simp [hc])] at this; exact this
  have hn:(c == 0)=false:=by simp [hc]
  have hn2:(c != 0)=true:=by simp [hc]
  clear HF hc
  go_wp2
  go_ret
  exact ⟨by rw [HF2.out]; rfl,B3.out⟩
theorem stand_any (r s:RCut) (w:World) (h1:Lies w r) (h2:Lies w s) :
  Calls Tryz.prog 152 #[.agg #[r.kind,r.v.a,r.v.b,r.v.c,.slice r.A r.v.pre.length r.c,.slice r.B r.v.build.length r.d],.agg #[s.kind,s.v.a,s.v.b,s.v.c,.slice s.A s.v.pre.length s.c,.slice s.B s.v.build.length s.d]] w fun e w'=>e=.returned (.int .i64 (stand r.cut s.cut))∧Below w.heap.size w w':=dropD (stand_anyD r s w h1 h2)

theorem compareC_any (r s:RCut) (w:World) (h1:Lies w r) (h2:Lies w s) :
  Calls Tryz.prog 121 #[.agg #[r.kind,r.v.a,r.v.b,r.v.c,.slice r.A r.v.pre.length r.c,.slice r.B r.v.build.length r.d],.agg #[s.kind,s.v.a,s.v.b,s.v.c,.slice s.A s.v.pre.length s.c,.slice s.B s.v.build.length s.d]] w fun e w'=>e=.returned (.int .i64 (cmpC r.cut s.cut))∧Below w.heap.size w w':=by
 have HBa:Hid (Below w.heap.size w ((w.alloc r).alloc s)):=((Below.refl _ _).alloc (Nat.le_refl _) _).alloc (by simp) _
 have HL:=Lib.hid (h1.kept HBa.out)
 have HM:=Lib.hid (h2.kept HBa.out)
 have K0:Hid (At6B ((w.alloc r).alloc s) w.heap.size r.kind r.v.a r.v.b r.v.c (.slice r.A r.v.pre.length r.c) (.slice r.B r.v.build.length r.d)):=(At6B.new w _ _ _ _ _ _ _).kept ((Below.refl _ _).alloc (Nat.le_refl _) _) (by simp)
 have J0:Hid (At6B ((w.alloc r).alloc s) (w.heap.size+1) s.kind s.v.a s.v.b s.v.c (.slice s.A s.v.pre.length s.c) (.slice s.B s.v.build.length s.d)):=by
  have:=At6B.new (w.alloc r) 161 s.kind s.v.a s.v.b s.v.c (.slice s.A s.v.pre.length s.c) (.slice s.B s.v.build.length s.d)
  rw [size_alloc] at this; exact this
 clear h1 h2
 have HF:Hid (cmpC r.cut s.cut=if right r.cut=true∧right s.cut=true then stand r.cut s.cut else ordI r.kind s.kind):=rfl
 go_enter Tryz.func121,Tryz.ntmps121
 go_upto_region 1 with (fail)
 generalize ((w.alloc r).alloc s)=W at HBa HL HM K0 J0 ⊢
 obtain ⟨hz,_,x0,x1,x2,x3,x4,x5⟩:=K0.out
 obtain ⟨hy,_,y0,y1,y2,y3,y4,y5⟩:=J0.out
 go_wp2_with fail
 refine (right_any r _ HL.out).mono ?_
 rintro e w1 ⟨rfl,hb1⟩
 have K1:=Lib.hid (K0.out.kept hb1 hz)
 have J1:=Lib.hid (J0.out.kept hb1 hy)
 have L1:=Lib.hid (HL.out.kept hb1)
 have M1:=Lib.hid (HM.out.kept hb1)
 have B1:=Lib.hid (HBa.out.trans (hb1.mono HBa.out.size))
 clear hb1 hz hy
 clear x0 x1 x2 x3 x4 x5 y0 y1 y2 y3 y4 y5
 obtain ⟨hz1,_,x0,x1,x2,x3,x4,x5⟩:=K1.out
 obtain ⟨hy1,_,y0,y1,y2,y3,y4,y5⟩:=J1.out
 generalize right r.cut=g1 at HF ⊢
 cases g1
 ·have HF2:Hid (cmpC r.cut s.cut=ordI r.kind s.kind):=by have:=HF.out; rw [if_neg (by rintro ⟨h,_⟩; cases h)] at this; exact this
  clear HF
  go_wp2_with fail
  refine (cmpI_any _ _ _).mono ?_
  rintro e w' ⟨rfl,rfl⟩
  go_wp2
  go_ret
  exact ⟨by rw [HF2.out]; rfl,B1.out⟩
 go_wp2_with fail
 refine (right_any s _ M1.out).mono ?_
 rintro e w2 ⟨rfl,hb2⟩
 have K2:=Lib.hid (K1.out.kept hb2 hz1)
 have J2:=Lib.hid (J1.out.kept hb2 hy1)
 have L2:=Lib.hid (L1.out.kept hb2)
 have M2:=Lib.hid (M1.out.kept hb2)
 have B2:=Lib.hid (B1.out.trans (hb2.mono B1.out.size))
 clear hb2 hz1 hy1
 clear x0 x1 x2 x3 x4 x5 y0 y1 y2 y3 y4 y5
 obtain ⟨hz2,_,x0,x1,x2,x3,x4,x5⟩:=K2.out
 obtain ⟨hy2,_,y0,y1,y2,y3,y4,y5⟩:=J2.out
 generalize right s.cut=g2 at HF ⊢
 cases g2
 ·have HF2:Hid (cmpC r.cut s.cut=ordI r.kind s.kind):=by have:=HF.out; rw [if_neg (by rintro ⟨_,h⟩; cases h)] at this; exact this
  clear HF
  go_wp2_with fail
  refine (cmpI_any _ _ _).mono ?_
  rintro e w' ⟨rfl,rfl⟩
  go_wp2
  go_ret
  exact ⟨by rw [HF2.out]; rfl,B2.out⟩
 have HF2:Hid (cmpC r.cut s.cut=stand r.cut s.cut):=by have:=HF.out; rw [if_pos (by simp)] at this; exact this
 clear HF
 go_wp2_with fail
 refine (stand_any r s _ L2.out M2.out).mono ?_
 rintro e w3 ⟨rfl,hb3⟩
 have B3:=Lib.hid (B2.out.trans (hb3.mono B2.out.size))
 clear hb3 hz2 hy2
 clear x0 x1 x2 x3 x4 x5 y0 y1 y2 y3 y4 y5
 go_wp2
 go_ret
 exact ⟨by rw [HF2.out]; rfl,B3.out⟩

theorem counts_any (s:RSp) (w:World) (h:LiesS w s) :
  Calls Tryz.prog 197 #[.agg #[s.lo.kind,s.lo.v.a,s.lo.v.b,s.lo.v.c,.slice s.lo.A s.lo.v.pre.length s.lo.c,.slice s.lo.B s.lo.v.build.length s.lo.d,s.hi.kind,s.hi.v.a,s.hi.v.b,s.hi.v.c,.slice s.hi.A s.hi.v.pre.length s.hi.c,.slice s.hi.B s.hi.v.build.length s.hi.d]] w fun e w'=>e=.returned (.bool (cnt s.sp))∧Below w.heap.size w w':=by
 have HBa:Hid (Below w.heap.size w (w.alloc (s.lo,s.hi))):=(Below.refl _ _).alloc (Nat.le_refl _) _
 have HL:=Lib.hid (h.kept HBa.out)
 have K0:Hid (At12B (w.alloc (s.lo,s.hi)) w.heap.size s.lo.kind s.lo.v.a s.lo.v.b s.lo.v.c (.slice s.lo.A s.lo.v.pre.length s.lo.c) (.slice s.lo.B s.lo.v.build.length s.lo.d) s.hi.kind s.hi.v.a s.hi.v.b s.hi.v.c (.slice s.hi.A s.hi.v.pre.length s.hi.c) (.slice s.hi.B s.hi.v.build.length s.hi.d)):=At12B.new w _ _ _ _ _ _ _ _ _ _ _ _ _
 clear h
 have HF:Hid (cnt s.sp=(right s.lo.cut && (right s.hi.cut && decide (stand s.lo.cut s.hi.cut<0)))):=rfl
 go_enter Tryz.func197,Tryz.ntmps197
 go_upto_region 1 with (fail)
 generalize (w.alloc (s.lo,s.hi))=W at HBa HL K0 ⊢
 obtain ⟨hz,_,x0,x1,x2,x3,x4,x5,x6,x7,x8,x9,x10,x11⟩:=K0.out
 go_wp2_with fail
 refine (right_any s.lo _ HL.out.lo).mono ?_
 rintro e w1 ⟨rfl,hb1⟩
 have K1:=Lib.hid (K0.out.kept hb1 hz)
 have L1:=Lib.hid (HL.out.kept hb1)
 have B1:=Lib.hid (HBa.out.trans (hb1.mono HBa.out.size))
 clear hb1 hz x0 x1 x2 x3 x4 x5 x6 x7 x8 x9 x10 x11
 obtain ⟨hz1,_,x0,x1,x2,x3,x4,x5,x6,x7,x8,x9,x10,x11⟩:=K1.out
 generalize right s.lo.cut=g1 at HF ⊢
 cases g1
 ·go_wp2
  go_ret
  exact ⟨by rw [HF.out]; rfl,B1.out⟩
 go_wp2_with fail
 refine (right_any s.hi _ L1.out.hi).mono ?_
 rintro e w2 ⟨rfl,hb2⟩
 have K2:=Lib.hid (K1.out.kept hb2 hz1)
 have L2:=Lib.hid (L1.out.kept hb2)
 have B2:=Lib.hid (B1.out.trans (hb2.mono B1.out.size))
 clear hb2 hz1 x0 x1 x2 x3 x4 x5 x6 x7 x8 x9 x10 x11
 obtain ⟨hz2,_,x0,x1,x2,x3,x4,x5,x6,x7,x8,x9,x10,x11⟩:=K2.out
 generalize right s.hi.cut=g2 at HF ⊢
 cases g2
 ·go_wp2
  go_ret
  exact ⟨by rw [HF.out]; rfl,B2.out⟩
 go_wp2_with fail
 refine (stand_any s.lo s.hi _ L2.out.lo L2.out.hi).mono ?_
 rintro e w3 ⟨rfl,hb3⟩
 have B3:=Lib.hid (B2.out.trans (hb3.mono B2.out.size))
 clear hb3 hz2 x0 x1 x2 x3 x4 x5 x6 x7 x8 x9 x10 x11
 generalize stand s.lo.cut s.hi.cut=c at HF ⊢
 by_cases hc:c<0
 ·have HF2:Hid (cnt s.sp=true):=by have:=HF.out; unfold Hid; rw [this]; simp [hc]
  clear HF
  go_wp2
  go_ret
  exact ⟨by rw [HF2.out]; rfl,B3.out⟩
 ·have HF2:Hid (cnt s.sp=false):=by have:=HF.out; unfold Hid; rw [this]; simp; omega
  have hd:decide (c<0)=false:=by simpa using hc
  clear HF
  go_wp2
  go_ret
  exact ⟨by rw [HF2.out]; rfl,B3.out⟩

end Go.Proofs.YtneilnibghhgmaaGreatDoor.Span
namespace Go.Proofs.YtneilnibghhgmaaGreatDoor.Span
open Go.RowKit Num Ident Semver Prec

theorem svals_len (s:RSp):s.vals.length=12:=rfl
theorem evals_len (e:REdge):e.vals.length=7:=rfl

theorem edInfo:(Tryz.prog.info? 198).map (fun i=>(i.zero,i.size,i.bytes))=some (some (.agg #[.int .i64 0,.int .u64 0,.int .u64 0,.int .u64 0,.slice none 0 0,.slice none 0 0,.int .i64 0]),7,88):=by kernel_rfl
theorem wpList_append_ed (w:World) {ops:Array Oper} {rest:List Oper} {o:Oper} {a:Act} {Q:Exit→Act→World→Prop} (hgd:o.guard=none) (s x:Operand)
  (ho:o.op=.call { callee:=.builtin .append,args:=#[s,x],argTypes:=#[195,195] })
  (base:Nat) (v:Value) (n:Nat) (l:List REdge) (hs:a.eval s=v) (hown:w.ownsRow base 198 7 v n (l.flatMap REdge.vals))
  (ad:Addr) (m c:Nat) (r:List REdge) (hx:a.eval x=.slice (some ad) m c) (hr:r.length=m) (hnews:∀ j u,(r.flatMap REdge.vals)[j]?=some u→w.cell? (ad.add j)=some u) (hb:(n+m) * 88≤140737488355328) (hbase:base≤w.heap.size)
  (h:∀ v' w',w'.ownsRow base 198 7 v' (n+m) ((l ++ r).flatMap REdge.vals)→Below base w w'→wpList Tryz.prog ops Q rest (a.put o.dst v') w'):wpList Tryz.prog ops Q (o :: rest) a w:=by
 obtain ⟨i,hi,hz,hsz,hby⟩:=info_parts edInfo
 refine wpList_append_own w hgd s x 195 ho base 198 i _ 7 88 Tryz.underlying195 hi hz hsz hby rfl (by omega) v n _ hs hown ad m c _ hx (by rw [flat_len _ 7 evals_len,hr]) hnews (flat_one _ evals_one r) (by unfold maxLen; omega) hb hbase (fun v' w' h2 h3 _=>?_)
 refine h v' w' (by rw [List.flatMap_append]; exact h2) ((Below.refl base w).grown h3 hbase fun k hk=>(hown.lt k hk).1)

theorem spInfo:(Tryz.prog.info? 164).map (fun i=>(i.zero,i.size,i.bytes))=some (some (.agg #[.int .i64 0,.int .u64 0,.int .u64 0,.int .u64 0,.slice none 0 0,.slice none 0 0,.int .i64 0,.int .u64 0,.int .u64 0,.int .u64 0,.slice none 0 0,.slice none 0 0]),12,160):=by kernel_rfl
theorem wpList_append_sp (w:World) {ops:Array Oper} {rest:List Oper} {o:Oper} {a:Act} {Q:Exit→Act→World→Prop} (hgd:o.guard=none) (s x:Operand)
  (ho:o.op=.call { callee:=.builtin .append,args:=#[s,x],argTypes:=#[129,129] })
  (base:Nat) (v:Value) (n:Nat) (l:List RSp) (hs:a.eval s=v) (hown:w.ownsRow base 164 12 v n (l.flatMap RSp.vals))
  (ad:Addr) (m c:Nat) (r:List RSp) (hx:a.eval x=.slice (some ad) m c) (hr:r.length=m) (hnews:∀ j u,(r.flatMap RSp.vals)[j]?=some u→w.cell? (ad.add j)=some u) (hb:(n+m) * 160≤140737488355328) (hbase:base≤w.heap.size)
  (h:∀ v' w',w'.ownsRow base 164 12 v' (n+m) ((l ++ r).flatMap RSp.vals)→Below base w w'→wpList Tryz.prog ops Q rest (a.put o.dst v') w'):wpList Tryz.prog ops Q (o :: rest) a w:=by
 obtain ⟨i,hi,hz,hsz,hby⟩:=info_parts spInfo
 refine wpList_append_own w hgd s x 129 ho base 164 i _ 12 160 Tryz.underlying129 hi hz hsz hby rfl (by omega) v n _ hs hown ad m c _ hx (by rw [flat_len _ 12 svals_len,hr]) hnews (flat_one _ svals_one r) (by unfold maxLen; omega) hb hbase (fun v' w' h2 h3 _=>?_)
 refine h v' w' (by rw [List.flatMap_append]; exact h2) ((Below.refl base w).grown h3 hbase fun k hk=>(hown.lt k hk).1)

theorem run_append_sp (w:World) (ty:TypeId) (base:Nat) (v:Value) (n:Nat) (l:List RSp) (hown:w.ownsRow base 164 12 v n (l.flatMap RSp.vals)) (ad:Addr) (m c:Nat) (r:List RSp) (hr:r.length=m) (hnews:∀ j u,(r.flatMap RSp.vals)[j]?=some u→w.cell? (ad.add j)=some u) (hb:(n+m) * 160≤140737488355328) (hbase:base≤w.heap.size) :
  ∃ v' w',(Builtin.append_ #[129,129] ty #[v,.slice (some ad) m c]).run Tryz.prog w=.ok v' w'∧w'.ownsRow base 164 12 v' (n+m) ((l ++ r).flatMap RSp.vals)∧w.grownBy w' v.ownBlock:=by
 obtain ⟨i,hi,hz,hs,hby⟩:=info_parts spInfo
 obtain ⟨v',w',h3,h4,h5,_⟩:=run_append_own (P:=Tryz.prog) w base 129 ty 164 i _ 12 160 Tryz.underlying129 hi hz hs hby rfl (by omega) v n _ hown ad m c (r.flatMap RSp.vals)
  (by rw [flat_len _ 12 svals_len,hr]) hnews (flat_one _ svals_one r) (by unfold maxLen; omega) hb hbase
 exact ⟨v',w',h3,by rw [List.flatMap_append]; exact h4,h5⟩
end Go.Proofs.YtneilnibghhgmaaGreatDoor.Span
namespace Go.Proofs.YtneilnibghhgmaaGreatDoor.Came
open Go.ChangeShapes Go.WideShapes Go.RowKit Go.Deep

theorem kind_read {H:Type} {enc:TypeId × Value→H} {W:World} {n:Nat} {z:Value} {y:DataW H × List MemPlace} (h:DataW.trod enc Tryz.prog W 0 (fun _=>true) true n 3 [z]=some y):∃ k:Int,z=.int .i64 k:=by
 obtain ⟨m,hm,_,_⟩:=DataW.trod_int Tryz.underlying3 h
 simp at hm
 exact ⟨m,hm⟩
theorem list_of {α:Type} [Inhabited α] {P:Nat→α→Prop}:∀ (n:Nat),(∀ i,i<n→∃ x,P i x)→∃ l:List α,l.length=n∧∀ i,i<n→P i (l.getD i default)
 | 0,_=>⟨[],rfl,fun i hi=>by omega⟩
 | n+1,h=>by
  obtain ⟨l,hl,hp⟩:=list_of n fun i hi=>h i (by omega)
  obtain ⟨x,hx⟩:=h n (by omega)
  refine ⟨l ++ [x],by simp [hl],fun i hi=>?_⟩
  rcases Nat.lt_or_ge i n with h1 | h1
  ·have e:(l ++ [x]).getD i default=l.getD i default:=by simp [List.getD,List.getElem?_append_left (show i<l.length by omega)]
   rw [e]; exact hp i h1
  ·obtain rfl:i=n:=by omega
   have e:(l ++ [x]).getD i default=x:=by simp [List.getD,← hl]
   rw [e]; exact hx
end Go.Proofs.YtneilnibghhgmaaGreatDoor.Came
namespace Go.Proofs.YtneilnibghhgmaaGreatDoor.Range
open Num Ident Semver

theorem sameV_eq {u v:Ver} (h:sameV u v=true):u=v:=by
 unfold sameV at h
 rw [Bool.and_eq_true,Bool.and_eq_true,decide_eq_true_eq,sameB_iff,sameB_iff] at h
 obtain ⟨a,b,c,p,q⟩:=u
 obtain ⟨a',b',c',p',q'⟩:=v
 obtain ⟨⟨h1,h2,h3⟩,h4,h5⟩:=h
 simp only at h1 h2 h3 h4 h5
 rw [h1,h2,h3,h4,h5]
theorem good_cases {kind:Int} {v:Ver} {l:List Rng} {d:Nat} (h:goodR (.mk kind v l) d=true) :
  d≤64∧goodL kind l d=true∧((1≤kind∧kind≤8∧goodV v=true∧l=[])∨(v=noVer∧((kind=0∧l=[])∨((kind=9∨kind=10)∧2≤l.length)∨(kind=11∧∃ x,l=[x])))):=by
 rw [goodR_eq,Bool.and_eq_true,Bool.and_eq_true,decide_eq_true_eq] at h
 refine ⟨h.1.1,h.2,?_⟩
 have hf:=h.1.2
 unfold fits at hf
 by_cases h1:ofVersion kind=true
 ·rw [if_pos h1,Bool.and_eq_true,decide_eq_true_eq] at hf
  unfold ofVersion at h1
  rw [decide_eq_true_eq] at h1
  exact .inl ⟨h1.1,h1.2,hf.1,List.eq_nil_of_length_eq_zero hf.2⟩
 ·rw [if_neg h1] at hf
  by_cases h2:sameV v noVer=false
  ·rw [if_pos h2] at hf; cases hf
  ·rw [if_neg h2] at hf
   refine .inr ⟨sameV_eq (by simpa using h2),?_⟩
   by_cases h3:kind=0
   ·rw [if_pos h3,decide_eq_true_eq] at hf; exact .inl ⟨h3,List.eq_nil_of_length_eq_zero hf⟩
   ·rw [if_neg h3] at hf
    by_cases h4:kind=9∨kind=10
    ·rw [if_pos h4,decide_eq_true_eq] at hf; exact .inr (.inl ⟨h4,hf⟩)
    ·rw [if_neg h4] at hf
     by_cases h5:kind=11
     ·rw [if_pos h5,decide_eq_true_eq] at hf
      exact .inr (.inr ⟨h5,List.length_eq_one_iff.1 hf⟩)
     ·rw [if_neg h5] at hf; cases hf
theorem size_mem {x:Rng} {kind:Int} {v:Ver} {l:List Rng} (h:x ∈ l):SizeOf.sizeOf x<SizeOf.sizeOf (Rng.mk kind v l):=by
 have:=List.sizeOf_lt_of_mem h
 rw [Rng.mk.sizeOf_spec]; omega
theorem goodL_mem {o:Int} {x:Rng}:∀ {l:List Rng} {d:Nat},goodL o l d=true→x ∈ l→goodR x (d+opens o x.kind)=true
 | [],_,_,h=>by cases h
 | r :: rs,d,hg,h=>by
  rw [goodL_cons,Bool.and_eq_true] at hg
  rcases List.mem_cons.1 h with rfl | h
  ·exact hg.1
  ·exact goodL_mem hg.2 h

structure Reads (r:Rng) (k:Nat) (rest:List UInt8):Prop where
 one:r.kind≠9→r.kind≠10→pone k (textR r ++ rest)=(0,blanks rest,r)
 every:r.kind≠10→furO (blanks rest)=none→everyF (pone k) (textR r ++ rest)=(0,blanks rest,r)
 expr:furO (blanks rest)=none→furE (blanks rest)=none→exprF (pone k) (textR r ++ rest)=(0,blanks rest,r)
end Go.Proofs.YtneilnibghhgmaaGreatDoor.Range
namespace Go.Proofs.YtneilnibghhgmaaGreatDoor.Span
open Go.RowKit Num Ident Semver Prec

theorem sw1_anyD (x y:REdge) (w:World) (h1:Lies w x.cut) (h2:Lies w y.cut) :
  Calls Tryz.prog 194 #[.agg #[x.cut.kind,x.cut.v.a,x.cut.v.b,x.cut.v.c,.slice x.cut.A x.cut.v.pre.length x.cut.c,.slice x.cut.B x.cut.v.build.length x.cut.d,.int .i64 x.step],.agg #[y.cut.kind,y.cut.v.a,y.cut.v.b,y.cut.v.c,.slice y.cut.A y.cut.v.pre.length y.cut.c,.slice y.cut.B y.cut.v.build.length y.cut.d,.int .i64 y.step]] w fun e w'=>e=.returned (.int .i64 (stand x.cut.cut y.cut.cut))∧BelowD w.heap.size w w':=by
 have HBa:Hid (BelowD w.heap.size w ((w.alloc (.cells #[x.cut.kind,x.cut.v.a,x.cut.v.b,x.cut.v.c,.slice x.cut.A x.cut.v.pre.length x.cut.c,.slice x.cut.B x.cut.v.build.length x.cut.d,.int .i64 x.step] 198)).alloc (.cells #[y.cut.kind,y.cut.v.a,y.cut.v.b,y.cut.v.c,.slice y.cut.A y.cut.v.pre.length y.cut.c,.slice y.cut.B y.cut.v.build.length y.cut.d,.int .i64 y.step] 198))):=((BelowD.refl _ _).alloc (Nat.le_refl _) _).alloc (by simp) _
 have HL:=Lib.hid (h1.kept HBa.out.toBelow)
 have HM:=Lib.hid (h2.kept HBa.out.toBelow)
 have K0:Hid (At7B ((w.alloc (.cells #[x.cut.kind,x.cut.v.a,x.cut.v.b,x.cut.v.c,.slice x.cut.A x.cut.v.pre.length x.cut.c,.slice x.cut.B x.cut.v.build.length x.cut.d,.int .i64 x.step] 198)).alloc (.cells #[y.cut.kind,y.cut.v.a,y.cut.v.b,y.cut.v.c,.slice y.cut.A y.cut.v.pre.length y.cut.c,.slice y.cut.B y.cut.v.build.length y.cut.d,.int .i64 y.step] 198)) w.heap.size x.cut.kind x.cut.v.a x.cut.v.b x.cut.v.c (.slice x.cut.A x.cut.v.pre.length x.cut.c) (.slice x.cut.B x.cut.v.build.length x.cut.d) (.int .i64 x.step)):=(At7B.new w _ _ _ _ _ _ _ _).kept ((Below.refl _ _).alloc (Nat.le_refl _) _) (by simp)
 have J0:Hid (At7B ((w.alloc (.cells #[x.cut.kind,x.cut.v.a,x.cut.v.b,x.cut.v.c,.slice x.cut.A x.cut.v.pre.length x.cut.c,.slice x.cut.B x.cut.v.build.length x.cut.d,.int .i64 x.step] 198)).alloc (.cells #[y.cut.kind,y.cut.v.a,y.cut.v.b,y.cut.v.c,.slice y.cut.A y.cut.v.pre.length y.cut.c,.slice y.cut.B y.cut.v.build.length y.cut.d,.int .i64 y.step] 198)) (w.heap.size+1) y.cut.kind y.cut.v.a y.cut.v.b y.cut.v.c (.slice y.cut.A y.cut.v.pre.length y.cut.c) (.slice y.cut.B y.cut.v.build.length y.cut.d) (.int .i64 y.step)):=by
  have:=At7B.new (w.alloc (.cells #[x.cut.kind,x.cut.v.a,x.cut.v.b,x.cut.v.c,.slice x.cut.A x.cut.v.pre.length x.cut.c,.slice x.cut.B x.cut.v.build.length x.cut.d,.int .i64 x.step] 198)) 198 y.cut.kind y.cut.v.a y.cut.v.b y.cut.v.c (.slice y.cut.A y.cut.v.pre.length y.cut.c) (.slice y.cut.B y.cut.v.build.length y.cut.d) (.int .i64 y.step)
  rw [size_alloc] at this; exact this
 clear h1 h2
 go_enter Tryz.func194,Tryz.ntmps194
 go_upto_region 1 with (fail)
 generalize ((w.alloc (.cells #[x.cut.kind,x.cut.v.a,x.cut.v.b,x.cut.v.c,.slice x.cut.A x.cut.v.pre.length x.cut.c,.slice x.cut.B x.cut.v.build.length x.cut.d,.int .i64 x.step] 198)).alloc (.cells #[y.cut.kind,y.cut.v.a,y.cut.v.b,y.cut.v.c,.slice y.cut.A y.cut.v.pre.length y.cut.c,.slice y.cut.B y.cut.v.build.length y.cut.d,.int .i64 y.step] 198))=W at HBa HL HM K0 J0 ⊢
 obtain ⟨hz,_,x0,x1,x2,x3,x4,x5,x6⟩:=K0.out
 obtain ⟨hy,_,y0,y1,y2,y3,y4,y5,y6⟩:=J0.out
 go_wp2_with fail
 refine (stand_anyD x.cut y.cut _ HL.out HM.out).mono ?_
 rintro e w1 ⟨rfl,hb1⟩
 have B1:=Lib.hid (HBa.out.trans (hb1.mono HBa.out.size))
 clear hb1 x0 x1 x2 x3 x4 x5 x6 y0 y1 y2 y3 y4 y5 y6
 go_wp2
 go_ret
 exact ⟨rfl,B1.out⟩

theorem grow_of {w w':World} (h:BelowD w.heap.size w w'):∃ q os',w'=Go.Sort.grow (w.drewN q) os':=by
 obtain ⟨p,hp⟩:=regrown_of_below h.toBelow
 have hd:w'.drawn=p.d:=by rw [hp]; rfl
 have hle:=h.drawn
 refine ⟨p.d - w.drawn,p.os,?_⟩
 rw [hp]
 unfold Go.Sort.grow redrawn World.drewN
 simp only [World.mk.injEq,true_and,and_true]
 omega
structure Laid (w:World) where
 e:REdge
 h:Lies w e.cut
instance (w:World):Inhabited (Laid w):=⟨⟨⟨rlow,0⟩,Lies.low w⟩⟩
def encE (w:World) (x:Laid w):List Value:=x.e.vals
def cfE (w:World) (x y:Laid w):Int:=stand x.e.cut.cut y.e.cut.cut
theorem swoE (w:World):Go.Sort.SWO (ltOf (cfE w)):=by
 refine ⟨fun x=>?_,fun x y z h1 h2=>?_,fun x y z h1 h2=>?_⟩
 ·unfold ltOf cfE; rw [stand_self]; rfl
 ·unfold ltOf cfE at *; rw [decide_eq_true_eq] at *; exact lt_lt h1 h2
 ·unfold ltOf cfE at *
  rw [decide_eq_false_iff_not] at *
  have a:=not_lt h1
  have b:=not_lt h2
  exact le_not (le_le b a)
theorem below_sort {α:Type} [Inhabited α] (enc:α→List Value) (k:Nat) (w:World) (blk off m:Nat) (d:Array α) (os:Array Obj) (B:Nat) (hB:B≤blk) (hw:B≤w.heap.size):Below B w (sortWorldK enc k w blk off m d os):=by
 unfold sortWorldK Go.Sort.putRowK Go.Sort.putRow Go.Sort.mapBlock Go.Sort.grow Go.Sort.ahead
 refine ⟨rfl,rfl,rfl,by simp,fun i hi=>?_⟩
 rw [Array.getElem?_append_left (by simp; omega),Array.getElem?_modify,if_neg (by omega)]
theorem grown_sort {α:Type} [Inhabited α] (enc:α→List Value) (k:Nat) (w:World) (blk off m:Nat) (d:Array α) (os:Array Obj):w.grownBy (sortWorldK enc k w blk off m d os) (some blk):=by
 unfold sortWorldK Go.Sort.putRowK Go.Sort.putRow Go.Sort.mapBlock Go.Sort.grow Go.Sort.ahead
 refine ⟨rfl,rfl,rfl,by simp,fun i hi hne=>?_⟩
 rw [Array.getElem?_append_left (by simpa using hi),Array.getElem?_modify,if_neg (fun e=>hne (by rw [e]))]
theorem flatK_list {α:Type} [Inhabited α] (enc:α→List Value) (k:Nat) (hk:∀ x,(enc x).length=k) (h0:0<k) (d:Array α):(Go.Sort.flatK enc k d).toList=d.toList.flatMap enc:=by
 apply List.ext_getElem?
 intro t
 by_cases ht:t<d.size * k
 ·have hq:t / k<d.size:=Nat.div_lt_of_lt_mul (by rw [Nat.mul_comm]; exact ht)
  have hm:t % k<k:=Nat.mod_lt _ h0
  have e1:t=t / k * k+t % k:=by rw [Nat.mul_comm]; exact (Nat.div_add_mod t k).symm
  have e2:=flat_get enc k hk d.toList (t / k) (t % k) (by simpa using hq) hm
  rw [← e1] at e2
  rw [e2,Array.getElem?_toList,Array.getElem?_eq_getElem (by rw [Go.Sort.size_flatK]; exact ht)]
  have e3:=Go.Sort.get_flatK enc k d t ht
  rw [getElem!_pos _ t (by rw [Go.Sort.size_flatK]; exact ht)] at e3
  rw [e3]
  have e4:d.toList.getD (t / k) default=d[t / k]!:=by
   rw [getElem!_pos d _ hq]; simp [List.getD,hq]
  rw [e4,getElem!_pos _ (t % k) (by rw [hk]; exact hm),List.getElem?_eq_getElem]
 ·rw [List.getElem?_eq_none (by simp [Go.Sort.size_flatK]; omega),List.getElem?_eq_none (by rw [flat_len _ k hk]; simp; omega)]

theorem cmpLays (w1 w:World) (blk n:Nat) (hb:Below w1.heap.size w1 w) (hblk:w1.heap.size≤blk):CmpLays Tryz.prog 194 #[] (encE w1) 7 (cfE w1) blk 0 n w:=by
 intro m os dk _ x y
 have hB:Below w1.heap.size w1 (sortWorldK (encE w1) 7 w blk 0 m dk os):=hb.trans (below_sort _ _ _ _ _ _ _ _ _ hblk hb.size)
 generalize sortWorldK (encE w1) 7 w blk 0 m dk os=W at hB ⊢
 have h:=sw1_anyD x.e y.e W (x.h.kept hB) (y.h.kept hB)
 rw [Array.append_empty]
 exact h.mono fun e w' ⟨he,hw⟩=>⟨he,grow_of hw⟩
def SortPost (w:World) (base:Nat) (v:Value) (re:List REdge) (e:Ending) (w':World):Prop :=
 e=.returned (.tuple #[])∧∃ re':List REdge,re'.Perm re∧(re'.Pairwise fun x y=>stand x.cut.cut y.cut.cut≤0)∧w'.ownsRow base 198 7 v re'.length (re'.flatMap REdge.vals)∧w.grownBy w' v.ownBlock

theorem sort_any (w1 w:World) (base:Nat) (v:Value) (re:List REdge) (hown:w.ownsRow base 198 7 v re.length (re.flatMap REdge.vals)) (hl:∀ e ∈ re,Lies w1 e.cut) (hb:Below w1.heap.size w1 w) (hbase:w1.heap.size≤base) (hsz:re.length<4611686018427387904) :
  Calls Tryz.prog 193 #[v,.func (.func 194) #[] #[]] w (SortPost w base v re):=by
 have hown0:=hown
 obtain ⟨hlen,h2⟩:=hown
 rcases h2 with ⟨rfl,h0⟩ | ⟨g,cap,cur,rfl,hg0,hg,hnc,hcm,hcs,htk⟩
 ·have hre:re=[]:=List.eq_nil_of_length_eq_zero h0
  subst hre
  exact (AnyF.slices_SortFunc_none Tryz.sortL none 0 (.func (.func 194) #[] #[]) w).mono fun e w' ⟨he,hw⟩=>by
   subst hw
   exact ⟨he,[],List.Perm.refl _,List.Pairwise.nil,hown0,World.grownBy.refl _ _⟩
 ·obtain ⟨d,hd⟩:∃ d:Array (Laid w1),d.toList.map Laid.e=re:=⟨(re.pmap (fun e h=>(⟨e,h⟩:Laid w1)) hl).toArray,by simp [List.map_pmap]⟩
  have hdn:d.size=re.length:=by rw [← hd]; simp
  have hk:∀ x:Laid w1,(encE w1 x).length=7:=fun _=>rfl
  have hF:(Go.Sort.flatK (encE w1) 7 d).toList=re.flatMap REdge.vals:=by
   rw [flatK_list _ 7 hk (by omega),← hd,List.flatMap_map]; rfl
  have hgl:g<w.heap.size:=(Array.getElem?_eq_some_iff.1 hg).1
  have hH:Go.Sort.HoldsK (encE w1) 7 w g 0 d:=by
   intro j hj
   rw [Go.Sort.size_flatK,hdn] at hj
   have hj2:j<(Go.Sort.flatK (encE w1) 7 d).size:=by rw [Go.Sort.size_flatK,hdn]; exact hj
   refine ⟨?_,by simp [World.frozen?,hg]⟩
   have e1:=hown0.cells (g:=g) rfl j _ (by rw [← hF,Array.getElem?_toList]; exact Array.getElem?_eq_getElem hj2)
   rw [add_none] at e1
   rw [e1,getElem!_pos _ j hj2]; rfl
  have hcon:=AnyQ.slices_SortFunc Tryz.sortL 7 Tryz.isAgg198 Tryz.sizeOf198 (encE w1) hk (fun x u hu=>evals_one x.e u hu) (cfE w1) (swoE w1) 194 #[] g 0 cap d w (enters_of Tryz.func194 (by kernel_rfl) rfl) (cmpLays w1 w g d.size hb (Nat.le_trans hbase hg0)) hH hgl (by rw [hdn]; exact hsz)
  rw [hdn] at hcon
  refine hcon.mono fun e w' ⟨he,d',m,os,hp,hs,hw⟩=>⟨he,d'.toList.map Laid.e,?_,?_,?_,?_⟩
  ·have h1:=hp.2.2
   rw [← hdn,Array.extract_size] at h1
   have h3:(d'.extract 0 d.size)=d':=by rw [← hp.1,Array.extract_size]
   rw [h3] at h1
   rw [← hd]; exact h1.map _
  ·rw [List.pairwise_map,List.pairwise_iff_getElem]
   intro i j hi hj hij
   have hi':i<d'.size:=by simpa using hi
   have hj':j<d'.size:=by simpa using hj
   have h1:=hs i j (Nat.zero_le _) hij (by rw [← hdn,← hp.1]; exact hj')
   unfold ltOf cfE at h1
   rw [decide_eq_false_iff_not,getElem!_pos d' i hi',getElem!_pos d' j hj'] at h1
   simpa using not_lt h1
  ·have hsz':(Go.Sort.flatK (encE w1) 7 d').size=re.length * 7:=by rw [Go.Sort.size_flatK,hp.1,hdn]
   have hF':(Go.Sort.flatK (encE w1) 7 d').toList=(d'.toList.map Laid.e).flatMap REdge.vals:=by
    rw [flatK_list _ 7 hk (by omega),List.flatMap_map]; rfl
   have hl':(d'.toList.map Laid.e).length=re.length:=by rw [List.length_map,Array.length_toList,hp.1,hdn]
   rw [hl',← hF']
   refine ⟨by rw [Array.length_toList]; exact hsz',.inr ⟨g,cap,Go.Sort.putCells id 0 (Go.Sort.flatK (encE w1) 7 d') cur,rfl,hg0,?_,hnc,hcm,by unfold Go.Sort.putCells; rw [Array.size_mapIdx]; exact hcs,?_⟩⟩
   ·rw [hw]
    unfold sortWorldK Go.Sort.putRowK Go.Sort.putRow Go.Sort.mapBlock Go.Sort.grow Go.Sort.ahead
    show ((w.heap.modify g _) ++ os)[g]?=_
    rw [Array.getElem?_append_left (by simpa using hgl),Array.getElem?_modify,if_pos rfl,hg]; rfl
   ·apply List.ext_getElem?
    intro t
    have hcs':re.length * 7≤cur.size:=by rw [hcs]; exact Nat.mul_le_mul_right 7 hnc
    by_cases ht:t<re.length * 7
    ·rw [List.getElem?_take_of_lt ht,Array.getElem?_toList,Array.getElem?_toList]
     unfold Go.Sort.putCells
     rw [Array.getElem?_mapIdx,Array.getElem?_eq_getElem (show t<cur.size by omega),Array.getElem?_eq_getElem (show t<(Go.Sort.flatK (encE w1) 7 d').size by omega)]
     simp only [Option.map_some]
     rw [if_pos ⟨Nat.zero_le _,by omega⟩,Nat.sub_zero,getElem!_pos _ t (by omega)]; rfl
    ·rw [List.getElem?_eq_none (by rw [List.length_take]; omega),List.getElem?_eq_none (by rw [Array.length_toList,hsz']; omega)]
  ·rw [hw]; exact grown_sort _ _ _ _ _ _ _ _
end Go.Proofs.YtneilnibghhgmaaGreatDoor.Span
