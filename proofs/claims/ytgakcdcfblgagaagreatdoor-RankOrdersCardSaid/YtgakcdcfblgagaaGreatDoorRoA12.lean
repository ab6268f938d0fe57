/-
  What the theorem of the last text needs of these: SpCuts, SpOwn, PrRefEnds, SpCame. Conditions: as each theorem states.
-/
import Derived.Test.YtgakcdcfblgagaaGreatDoorRoA1
import Derived.Test.YtgakcdcfblgagaaGreatDoorRoA2
import Derived.Test.YtgakcdcfblgagaaGreatDoorRoA4
import Derived.Test.YtgakcdcfblgagaaGreatDoorRoA7
import Derived.Test.YtgakcdcfblgagaaGreatDoorRoA10
import Derived.Test.YtgakcdcfblgagaaGreatDoorRoA11
import Derived.Deep.Slices
import Derived.Deep.Fields
import Derived.ChangeSame
set_option maxRecDepth 100000
set_option maxHeartbeats 25600000
namespace Go.Proofs.YtgakcdcfblgagaaGreatDoor.Span
open Go.RowKit Num Ident Semver Prec

theorem cmpI_any (x y:Int) (w:World) :
  Calls Tryz.prog 180 #[.int .i64 x,.int .i64 y] w fun e w'=>e=.returned (.int .i64 (ordI x y))∧w=w':=by
 rcases Int.lt_trichotomy x y with h | h | h
 ·have HF:=Lib.hid (ordI_lt h)
  go_enter Tryz.func180,Tryz.ntmps180
  go_wp2
  go_ret
  exact ⟨by rw [HF.out]; rfl,rfl⟩
 ·have HF:=Lib.hid (ordI_eq h)
  subst h
  go_enter Tryz.func180,Tryz.ntmps180
  go_wp2
  go_ret
  exact ⟨by rw [HF.out]; rfl,rfl⟩
 ·have HF:=Lib.hid (ordI_gt h)
  go_enter Tryz.func180,Tryz.ntmps180
  go_wp2
  go_ret
  exact ⟨by rw [HF.out]; rfl,rfl⟩
theorem same_none (v:Ver) (A:Option Addr) (c:Nat) (B:Option Addr) (d:Nat) (w:World) (r1:SRow w A v.pre.length v.pre) (r2:SRow w B v.build.length v.build) (h1:v.pre.length≤maxLen) (h2:v.build.length≤maxLen) :
  Calls Tryz.prog 207 #[.agg #[v.a,v.b,v.c,.slice A v.pre.length c,.slice B v.build.length d],.agg #[.int .u64 0,.int .u64 0,.int .u64 0,.slice none 0 0,.slice none 0 0]] w fun e w'=>e=.returned (.bool (sameV v noVer))∧Below w.heap.size w w' :=
 same_parts A v.pre.length c v.pre B v.build.length d v.build none 0 0 [] none 0 0 [] v.a v.b v.c 0 0 0 w r1 r2 (SRow.none_ _ _) (SRow.none_ _ _) h1 h2 (Nat.zero_le _) (Nat.zero_le _)

theorem right_any (r:RCut) (w:World) (h:Lies w r) :
  Calls Tryz.prog 179 #[.agg #[r.kind,r.v.a,r.v.b,r.v.c,.slice r.A r.v.pre.length r.c,.slice r.B r.v.build.length r.d]] w fun e w'=>e=.returned (.bool (right r.cut))∧Below w.heap.size w w':=by
 have HBa:Hid (Below w.heap.size w (w.alloc r)):=(Below.refl _ _).alloc (Nat.le_refl _) _
 have HL:=Lib.hid (h.kept HBa.out)
 have K0:Hid (At6B (w.alloc r) w.heap.size r.kind r.v.a r.v.b r.v.c (.slice r.A r.v.pre.length r.c) (.slice r.B r.v.build.length r.d)):=At6B.new w _ _ _ _ _ _ _
 clear h
 have HR:Hid (right r.cut=right ⟨r.kind,r.v⟩):=rfl
 by_cases h0:r.kind=0∨r.kind=3
 ·have HF:Hid (right r.cut=sameV r.v noVer):=right_ends h0
  have hs:(r.kind == 0)=true∨((r.kind == 0)=false∧(r.kind == 3)=true):=by
   rcases h0 with h0 | h0
   ·left; simp [h0]
   ·right; simp [h0]
  clear h0 HR
  rcases hs with e0 | ⟨e0,e3⟩
  all_goals
   go_enter Tryz.func179,Tryz.ntmps179
   go_upto_region 1 with (fail)
   generalize (w.alloc r)=W at HBa HL K0 ⊢
   obtain ⟨hz,_,x0,x1,x2,x3,x4,x5⟩:=K0.out
   go_wp2_with fail
   refine (same_none r.v r.A r.c r.B r.d _ HL.out.pre HL.out.build HL.out.fpre.1 HL.out.fbuild.1).mono ?_
   rintro e w1 ⟨rfl,hb1⟩
   have B1:=Lib.hid (HBa.out.trans (hb1.mono HBa.out.size))
   clear hb1 x0 x1 x2 x3 x4 x5
   go_wp2
   go_ret
   exact ⟨by rw [HF.out]; rfl,B1.out⟩
 have e0:(r.kind == 0)=false:=by simp; omega
 have e3:(r.kind == 3)=false:=by simp; omega
 by_cases h1:r.kind=1∨r.kind=2
 ·have HF:Hid (right r.cut=(goodV r.v && decide (r.v.build.length=0))):=right_ver h1
  have hs:(r.kind == 1)=true∨((r.kind == 1)=false∧(r.kind == 2)=true):=by
   rcases h1 with h1 | h1
   ·left; simp [h1]
   ·right; simp [h1]
  clear h0 h1 HR
  rcases hs with e1 | ⟨e1,e2⟩
  all_goals
   go_enter Tryz.func179,Tryz.ntmps179
   go_upto_region 1 with (fail)
   generalize (w.alloc r)=W at HBa HL K0 ⊢
   obtain ⟨hz,_,x0,x1,x2,x3,x4,x5⟩:=K0.out
   go_wp2_with fail
   refine (vgood_any r.v r.A r.c r.B r.d _ HL.out.pre HL.out.build HL.out.fpre.1 HL.out.fbuild.1 HL.out.fpre.2 HL.out.fbuild.2).mono ?_
   rintro e w1 ⟨rfl,hb1⟩
   have B1:=Lib.hid (HBa.out.trans (hb1.mono HBa.out.size))
   have K1:=Lib.hid (K0.out.kept hb1 hz)
   clear hb1 x0 x1 x2 x3 x4 x5 hz
   obtain ⟨hz,_,x0,x1,x2,x3,x4,x5⟩:=K1.out
   generalize goodV r.v=g at HF ⊢
   cases g
   ·go_wp2
    go_ret
    exact ⟨by rw [HF.out]; rfl,B1.out⟩
   ·by_cases hb:r.v.build.length=0
    ·have HF2:Hid (right r.cut=true):=by have:=HF.out; rw [this,decide_eq_true hb]; rfl
     have eb:((r.v.build.length:Int) == 0)=true:=by rw [beq_iff_eq]; omega
     clear HF hb
     go_wp2
     go_ret
     exact ⟨by rw [HF2.out]; rfl,B1.out⟩
    ·have HF2:Hid (right r.cut=false):=by have:=HF.out; rw [this,decide_eq_false hb]; rfl
     have eb:((r.v.build.length:Int) == 0)=false:=by rw [beq_eq_false_iff_ne]; omega
     clear HF hb
     go_wp2
     go_ret
     exact ⟨by rw [HF2.out]; rfl,B1.out⟩
 ·have HF:Hid (right r.cut=false):=right_none h0 h1
  have e1:(r.kind == 1)=false:=by simp; omega
  have e2:(r.kind == 2)=false:=by simp; omega
  clear h0 h1 HR
  go_enter Tryz.func179,Tryz.ntmps179
  go_upto_region 1 with (fail)
  generalize (w.alloc r)=W at HBa HL K0 ⊢
  obtain ⟨hz,_,x0,x1,x2,x3,x4,x5⟩:=K0.out
  go_wp2
  go_ret
  exact ⟨by rw [HF.out]; rfl,HBa.out⟩

theorem ofVer_any (r:RCut) (w:World) :
  Calls Tryz.prog 223 #[.agg #[r.kind,r.v.a,r.v.b,r.v.c,.slice r.A r.v.pre.length r.c,.slice r.B r.v.build.length r.d]] w fun e w'=>e=.returned (.bool (ofVer r.cut))∧BelowD w.heap.size w w':=by
 have HBa:Hid (BelowD w.heap.size w (w.alloc r)):=(BelowD.refl _ _).alloc (Nat.le_refl _) _
 have K0:Hid (At6B (w.alloc r) w.heap.size r.kind r.v.a r.v.b r.v.c (.slice r.A r.v.pre.length r.c) (.slice r.B r.v.build.length r.d)):=At6B.new w _ _ _ _ _ _ _
 by_cases h1:r.kind=1
 ·have HF:Hid (ofVer r.cut=true):=(ofVer_iff _).2 (.inl h1)
  have e1:(r.kind == 1)=true:=by simp [h1]
  clear h1
  go_enter Tryz.func223,Tryz.ntmps223
  go_upto_region 1 with (fail)
  generalize (w.alloc r)=W at HBa K0 ⊢
  obtain ⟨hz,_,x0,x1,x2,x3,x4,x5⟩:=K0.out
  go_wp2
  go_ret
  exact ⟨by rw [HF.out]; rfl,HBa.out⟩
 have e1:(r.kind == 1)=false:=by simp; omega
 by_cases h2:r.kind=2
 ·have HF:Hid (ofVer r.cut=true):=(ofVer_iff _).2 (.inr h2)
  have e2:(r.kind == 2)=true:=by simp [h2]
  clear h1 h2
  go_enter Tryz.func223,Tryz.ntmps223
  go_upto_region 1 with (fail)
  generalize (w.alloc r)=W at HBa K0 ⊢
  obtain ⟨hz,_,x0,x1,x2,x3,x4,x5⟩:=K0.out
  go_wp2
  go_ret
  exact ⟨by rw [HF.out]; rfl,HBa.out⟩
 ·have HF:Hid (ofVer r.cut=false):=(ofVer_no _).2 (by show ¬ (r.kind=1∨r.kind=2); omega)
  have e2:(r.kind == 2)=false:=by simp; omega
  clear h1 h2
  go_enter Tryz.func223,Tryz.ntmps223
  go_upto_region 1 with (fail)
  generalize (w.alloc r)=W at HBa K0 ⊢
  obtain ⟨hz,_,x0,x1,x2,x3,x4,x5⟩:=K0.out
  go_wp2
  go_ret
  exact ⟨by rw [HF.out]; rfl,HBa.out⟩

theorem stand_anyD (r s:RCut) (w:World) (h1:Lies w r) (h2:Lies w s) :
  Calls Tryz.prog 181 #[.agg #[r.kind,r.v.a,r.v.b,r.v.c,.slice r.A r.v.pre.length r.c,.slice r.B r.v.build.length r.d],.agg #[s.kind,s.v.a,s.v.b,s.v.c,.slice s.A s.v.pre.length s.c,.slice s.B s.v.build.length s.d]] w fun e w'=>e=.returned (.int .i64 (stand r.cut s.cut))∧BelowD w.heap.size w w':=by
 have HBa:Hid (BelowD w.heap.size w ((w.alloc r).alloc s)):=((BelowD.refl _ _).alloc (Nat.le_refl _) _).alloc (by simp) _
 have HL:=Lib.hid (h1.kept HBa.out.toBelow)
 have HM:=Lib.hid (h2.kept HBa.out.toBelow)
 have K0:Hid (At6B ((w.alloc r).alloc s) w.heap.size r.kind r.v.a r.v.b r.v.c (.slice r.A r.v.pre.length r.c) (.slice r.B r.v.build.length r.d)):=(At6B.new w _ _ _ _ _ _ _).kept ((Below.refl _ _).alloc (Nat.le_refl _) _) (by simp)
 have J0:Hid (At6B ((w.alloc r).alloc s) (w.heap.size+1) s.kind s.v.a s.v.b s.v.c (.slice s.A s.v.pre.length s.c) (.slice s.B s.v.build.length s.d)):=by
  have:=At6B.new (w.alloc r) 193 s.kind s.v.a s.v.b s.v.c (.slice s.A s.v.pre.length s.c) (.slice s.B s.v.build.length s.d)
  rw [size_alloc] at this; exact this
 clear h1 h2
 have HF:Hid (stand r.cut s.cut=if ofVer r.cut=true∧ofVer s.cut=true∧cmpV r.v s.v≠0 then cmpV r.v s.v else ordI r.kind s.kind):=rfl
 go_enter Tryz.func181,Tryz.ntmps181
 go_upto_region 1 with (fail)
 generalize ((w.alloc r).alloc s)=W at HBa HL HM K0 J0 ⊢
 obtain ⟨hz,_,x0,x1,x2,x3,x4,x5⟩:=K0.out
 obtain ⟨hy,_,y0,y1,y2,y3,y4,y5⟩:=J0.out
 go_wp2_with fail
 refine (ofVer_any r _).mono ?_
 rintro e w1 ⟨rfl,hb1⟩
 have K1:=Lib.hid (K0.out.kept hb1.toBelow hz)
 have J1:=Lib.hid (J0.out.kept hb1.toBelow hy)
 have L1:=Lib.hid (HL.out.kept hb1.toBelow)
 have M1:=Lib.hid (HM.out.kept hb1.toBelow)
 have B1:=Lib.hid (HBa.out.trans (hb1.mono HBa.out.size))
 clear hb1 hz hy
 clear x0 x1 x2 x3 x4 x5 y0 y1 y2 y3 y4 y5
 obtain ⟨hz1,_,x0,x1,x2,x3,x4,x5⟩:=K1.out
 obtain ⟨hy1,_,y0,y1,y2,y3,y4,y5⟩:=J1.out
 generalize ofVer r.cut=g1 at HF ⊢
 cases g1
 ·have HF2:Hid (stand r.cut s.cut=ordI r.kind s.kind):=by have:=HF.out; rw [if_neg (by rintro ⟨h,_⟩; cases h)] at this; exact this
  clear HF
  go_wp2_with fail
  refine (cmpI_any _ _ _).mono ?_
  rintro e w' ⟨rfl,rfl⟩
  go_wp2
  go_ret
  exact ⟨by rw [HF2.out]; rfl,B1.out⟩
 go_wp2_with fail
 refine (ofVer_any s _).mono ?_
 rintro e w2 ⟨rfl,hb2⟩
 have K2:=Lib.hid (K1.out.kept hb2.toBelow hz1)
 have J2:=Lib.hid (J1.out.kept hb2.toBelow hy1)
 have L2:=Lib.hid (L1.out.kept hb2.toBelow)
 have M2:=Lib.hid (M1.out.kept hb2.toBelow)
 have B2:=Lib.hid (B1.out.trans (hb2.mono B1.out.size))
 clear hb2 hz1 hy1
 clear x0 x1 x2 x3 x4 x5 y0 y1 y2 y3 y4 y5
 obtain ⟨hz2,_,x0,x1,x2,x3,x4,x5⟩:=K2.out
 obtain ⟨hy2,_,y0,y1,y2,y3,y4,y5⟩:=J2.out
 generalize ofVer s.cut=g2 at HF ⊢
 cases g2
 ·have HF2:Hid (stand r.cut s.cut=ordI r.kind s.kind):=by have:=HF.out; rw [if_neg (by rintro ⟨_,h,_⟩; cases h)] at this; exact this
  clear HF
  go_wp2_with fail
  refine (cmpI_any _ _ _).mono ?_
  rintro e w' ⟨rfl,rfl⟩
  go_wp2
  go_ret
  exact ⟨by rw [HF2.out]; rfl,B2.out⟩
 go_wp2_with fail
 refine (Prec.compare_anyD r.v s.v r.A r.B s.A s.B r.c r.d s.c s.d _ L2.out.pre M2.out.pre L2.out.fpre M2.out.fpre).mono ?_
 rintro e w3 ⟨rfl,hb3⟩
 have K3:=Lib.hid (K2.out.kept hb3.toBelow hz2)
 have J3:=Lib.hid (J2.out.kept hb3.toBelow hy2)
 have B3:=Lib.hid (B2.out.trans (hb3.mono B2.out.size))
 clear hb3 hz2 hy2
 clear x0 x1 x2 x3 x4 x5 y0 y1 y2 y3 y4 y5
 obtain ⟨hz3,_,x0,x1,x2,x3,x4,x5⟩:=K3.out
 obtain ⟨hy3,_,y0,y1,y2,y3,y4,y5⟩:=J3.out
 generalize cmpV r.v s.v=c at HF ⊢
 by_cases hc:c=0
 ·have HF2:Hid (stand r.cut s.cut=ordI r.kind s.kind):=by have:=HF.out; rw [if_neg (fun h=>h.2.2 hc)] at this; exact this
  subst hc
  clear HF
  go_wp2_with fail
  refine (cmpI_any _ _ _).mono ?_
  rintro e w' ⟨rfl,rfl⟩
  go_wp2
  go_ret
  exact ⟨by rw [HF2.out]; rfl,B3.out⟩
 ·have HF2:Hid (stand r.cut s.cut=c):=by have:=HF.out; rw [if_pos (by simp [hc])] at this; exact this
  have hn:(c == 0)=false:=by simp [hc]
  have hn2:(c != 0)=true:=by simp [hc]
  clear HF hc
  go_wp2
  go_ret
  exact ⟨by rw [HF2.out]; rfl,B3.out⟩
theorem stand_any (r s:RCut) (w:World) (h1:Lies w r) (h2:Lies w s) :
  Calls Tryz.prog 181 #[.agg #[r.kind,r.v.a,r.v.b,r.v.c,.slice r.A r.v.pre.length r.c,.slice r.B r.v.build.length r.d],.agg #[s.kind,s.v.a,s.v.b,s.v.c,.slice s.A s.v.pre.length s.c,.slice s.B s.v.build.length s.d]] w fun e w'=>e=.returned (.int .i64 (stand r.cut s.cut))∧Below w.heap.size w w':=dropD (stand_anyD r s w h1 h2)

theorem compareC_any (r s:RCut) (w:World) (h1:Lies w r) (h2:Lies w s) :
  Calls Tryz.prog 120 #[.agg #[r.kind,r.v.a,r.v.b,r.v.c,.slice r.A r.v.pre.length r.c,.slice r.B r.v.build.length r.d],.agg #[s.kind,s.v.a,s.v.b,s.v.c,.slice s.A s.v.pre.length s.c,.slice s.B s.v.build.length s.d]] w fun e w'=>e=.returned (.int .i64 (cmpC r.cut s.cut))∧Below w.heap.size w w':=by
 have HBa:Hid (Below w.heap.size w ((w.alloc r).alloc s)):=((Below.refl _ _).alloc (Nat.le_refl _) _).alloc (by simp) _
 have HL:=Lib.hid (h1.kept HBa.out)
 have HM:=Lib.hid (h2.kept HBa.out)
 have K0:Hid (At6B ((w.alloc r).alloc s) w.heap.size r.kind r.v.a r.v.b r.v.c (.slice r.A r.v.pre.length r.c) (.slice r.B r.v.build.length r.d)):=(At6B.new w _ _ _ _ _ _ _).kept ((Below.refl _ _).alloc (Nat.le_refl _) _) (by simp)
 have J0:Hid (At6B ((w.alloc r).alloc s) (w.heap.size+1) s.kind s.v.a s.v.b s.v.c (.slice s.A s.v.pre.length s.c) (.slice s.B s.v.build.length s.d)):=by
  have:=At6B.new (w.alloc r) 193 s.kind s.v.a s.v.b s.v.c (.slice s.A s.v.pre.length s.c) (.slice s.B s.v.build.length s.d)
  rw [size_alloc] at this; exact this
 clear h1 h2
 have HF:Hid (cmpC r.cut s.cut=if right r.cut=true∧right s.cut=true then stand r.cut s.cut else ordI r.kind s.kind):=rfl
 go_enter Tryz.func120,Tryz.ntmps120
 go_upto_region 1 with (fail)
 generalize ((w.alloc r).alloc s)=W at HBa HL HM K0 J0 ⊢
 obtain ⟨hz,_,x0,x1,x2,x3,x4,x5⟩:=K0.out
 obtain ⟨hy,_,y0,y1,y2,y3,y4,y5⟩:=J0.out
 go_wp2_with fail
 refine (right_any r _ HL.out).mono ?_
 rintro e w1 ⟨rfl,hb1⟩
 have K1:=Lib.hid (K0.out.kept hb1 hz)
 have J1:=Lib.hid (J0.out.kept hb1 hy)
 have L1:=Lib.hid (HL.out.kept hb1)
 have M1:=Lib.hid (HM.out.kept hb1)
 have B1:=Lib.hid (HBa.out.trans (hb1.mono HBa.out.size))
 clear hb1 hz hy
 clear x0 x1 x2 x3 x4 x5 y0 y1 y2 y3 y4 y5
 obtain ⟨hz1,_,x0,x1,x2,x3,x4,x5⟩:=K1.out
 obtain ⟨hy1,_,y0,y1,y2,y3,y4,y5⟩:=J1.out
 generalize right r.cut=g1 at HF ⊢
 cases g1
 ·have HF2:Hid (cmpC r.cut s.cut=ordI r.kind s.kind):=by have:=HF.out; rw [if_neg (by rintro ⟨h,_⟩; cases h)] at this; exact this
  clear HF
  go_wp2_with fail
  refine (cmpI_any _ _ _).mono ?_
  rintro e w' ⟨rfl,rfl⟩
  go_wp2
  go_ret
  exact ⟨by rw [HF2.out]; rfl,B1.out⟩
 go_wp2_with fail
 refine (right_any s _ M1.out).mono ?_
 rintro e w2 ⟨rfl,hb2⟩
 have K2:=Lib.hid (K1.out.kept hb2 hz1)
 have J2:=Lib.hid (J1.out.kept hb2 hy1)
 have L2:=Lib.hid (L1.out.kept hb2)
 have M2:=Lib.hid (M1.out.kept hb2)
 have B2:=Lib.hid (B1.out.trans (hb2.mono B1.out.size))
 clear hb2 hz1 hy1
 clear x0 x1 x2 x3 x4 x5 y0 y1 y2 y3 y4 y5
 obtain ⟨hz2,_,x0,x1,x2,x3,x4,x5⟩:=K2.out
 obtain ⟨hy2,_,y0,y1,y2,y3,y4,y5⟩:=J2.out
 generalize right s.cut=g2 at HF ⊢
 cases g2
 ·have HF2:Hid (cmpC r.cut s.cut=ordI r.kind s.kind):=by have:=HF.out; rw [if_neg (by rintro ⟨_,h⟩; cases h)] at this; exact this
  clear HF
  go_wp2_with fail
  refine (cmpI_any _ _ _).mono ?_
  rintro e w' ⟨rfl,rfl⟩
  go_wp2
  go_ret
  exact ⟨by rw [HF2.out]; rfl,B2.out⟩
 have HF2:Hid (cmpC r.cut s.cut=stand r.cut s.cut):=by have:=HF.out; rw [if_pos (by simp)] at this; exact this
 clear HF
 go_wp2_with fail
 refine (stand_any r s _ L2.out M2.out).mono ?_
 rintro e w3 ⟨rfl,hb3⟩
 have B3:=Lib.hid (B2.out.trans (hb3.mono B2.out.size))
 clear hb3 hz2 hy2
 clear x0 x1 x2 x3 x4 x5 y0 y1 y2 y3 y4 y5
 go_wp2
 go_ret
 exact ⟨by rw [HF2.out]; rfl,B3.out⟩

theorem counts_any (s:RSp) (w:World) (h:LiesS w s) :
  Calls Tryz.prog 249 #[.agg #[s.lo.kind,s.lo.v.a,s.lo.v.b,s.lo.v.c,.slice s.lo.A s.lo.v.pre.length s.lo.c,.slice s.lo.B s.lo.v.build.length s.lo.d,s.hi.kind,s.hi.v.a,s.hi.v.b,s.hi.v.c,.slice s.hi.A s.hi.v.pre.length s.hi.c,.slice s.hi.B s.hi.v.build.length s.hi.d]] w fun e w'=>e=.returned (.bool (cnt s.sp))∧Below w.heap.size w w':=by
 have HBa:Hid (Below w.heap.size w (w.alloc (s.lo,s.hi))):=(Below.refl _ _).alloc (Nat.le_refl _) _
 have HL:=Lib.hid (h.kept HBa.out)
 have K0:Hid (At12B (w.alloc (s.lo,s.hi)) w.heap.size s.lo.kind s.lo.v.a s.lo.v.b s.lo.v.c (.slice s.lo.A s.lo.v.pre.length s.lo.c) (.slice s.lo.B s.lo.v.build.length s.lo.d) s.hi.kind s.hi.v.a s.hi.v.b s.hi.v.c (.slice s.hi.A s.hi.v.pre.length s.hi.c) (.slice s.hi.B s.hi.v.build.length s.hi.d)):=At12B.new w _ _ _ _ _ _ _ _ _ _ _ _ _
 clear h
 have HF:Hid (cnt s.sp=(right s.lo.cut && (right s.hi.cut && decide (stand s.lo.cut s.hi.cut<0)))):=rfl
 go_enter Tryz.func249,Tryz.ntmps249
 go_upto_region 1 with (fail)
 generalize (w.alloc (s.lo,s.hi))=W at HBa HL K0 ⊢
 obtain ⟨hz,_,x0,x1,x2,x3,x4,x5,x6,x7,x8,x9,x10,x11⟩:=K0.out
 go_wp2_with fail
 refine (right_any s.lo _ HL.out.lo).mono ?_
 rintro e w1 ⟨rfl,hb1⟩
 have K1:=Lib.hid (K0.out.kept hb1 hz)
 have L1:=Lib.hid (HL.out.kept hb1)
 have B1:=Lib.hid (HBa.out.trans (hb1.mono HBa.out.size))
 clear hb1 hz x0 x1 x2 x3 x4 x5 x6 x7 x8 x9 x10 x11
 obtain ⟨hz1,_,x0,x1,x2,x3,x4,x5,x6,x7,x8,x9,x10,x11⟩:=K1.out
 generalize right s.lo.cut=g1 at HF ⊢
 cases g1
 ·go_wp2
  go_ret
  exact ⟨by rw [HF.out]; rfl,B1.out⟩
 go_wp2_with fail
 refine (right_any s.hi _ L1.out.hi).mono ?_
 rintro e w2 ⟨rfl,hb2⟩
 have K2:=Lib.hid (K1.out.kept hb2 hz1)
 have L2:=Lib.hid (L1.out.kept hb2)
 have B2:=Lib.hid (B1.out.trans (hb2.mono B1.out.size))
 clear hb2 hz1 x0 x1 x2 x3 x4 x5 x6 x7 x8 x9 x10 x11
 obtain ⟨hz2,_,x0,x1,x2,x3,x4,x5,x6,x7,x8,x9,x10,x11⟩:=K2.out
 generalize right s.hi.cut=g2 at HF ⊢
 cases g2
 ·go_wp2
  go_ret
  exact ⟨by rw [HF.out]; rfl,B2.out⟩
 go_wp2_with fail
 refine (stand_any s.lo s.hi _ L2.out.lo L2.out.hi).mono ?_
 rintro e w3 ⟨rfl,hb3⟩
 have B3:=Lib.hid (B2.out.trans (hb3.mono B2.out.size))
 clear hb3 hz2 x0 x1 x2 x3 x4 x5 x6 x7 x8 x9 x10 x11
 generalize stand s.lo.cut s.hi.cut=c at HF ⊢
 by_cases hc:c<0
 ·have HF2:Hid (cnt s.sp=true):=by have:=HF.out; unfold Hid; rw [this]; simp [hc]
  clear HF
  go_wp2
  go_ret
  exact ⟨by rw [HF2.out]; rfl,B3.out⟩
 ·have HF2:Hid (cnt s.sp=false):=by have:=HF.out; unfold Hid; rw [this]; simp; omega
  have hd:decide (c<0)=false:=by simpa using hc
  clear HF
  go_wp2
  go_ret
  exact ⟨by rw [HF2.out]; rfl,B3.out⟩

end Go.Proofs.YtgakcdcfblgagaaGreatDoor.Span
namespace Go.Proofs.YtgakcdcfblgagaaGreatDoor.Span
open Go.RowKit Num Ident Semver Prec

theorem svals_len (s:RSp):s.vals.length=12:=rfl
theorem evals_len (e:REdge):e.vals.length=7:=rfl

theorem edInfo:(Tryz.prog.info? 281).map (fun i=>(i.zero,i.size,i.bytes))=some (some (.agg #[.int .i64 0,.int .u64 0,.int .u64 0,.int .u64 0,.slice none 0 0,.slice none 0 0,.int .i64 0]),7,88):=by kernel_rfl
theorem wpList_append_ed (w:World) {ops:Array Oper} {rest:List Oper} {o:Oper} {a:Act} {Q:Exit→Act→World→Prop} (hgd:o.guard=none) (s x:Operand)
  (ho:o.op=.call { callee:=.builtin .append,args:=#[s,x],argTypes:=#[278,278] })
  (base:Nat) (v:Value) (n:Nat) (l:List REdge) (hs:a.eval s=v) (hown:w.ownsRow base 281 7 v n (l.flatMap REdge.vals))
  (ad:Addr) (m c:Nat) (r:List REdge) (hx:a.eval x=.slice (some ad) m c) (hr:r.length=m) (hnews:∀ j u,(r.flatMap REdge.vals)[j]?=some u→w.cell? (ad.add j)=some u) (hb:(n+m) * 88≤140737488355328) (hbase:base≤w.heap.size)
  (h:∀ v' w',w'.ownsRow base 281 7 v' (n+m) ((l ++ r).flatMap REdge.vals)→Below base w w'→wpList Tryz.prog ops Q rest (a.put o.dst v') w'):wpList Tryz.prog ops Q (o :: rest) a w:=by
 obtain ⟨i,hi,hz,hsz,hby⟩:=info_parts edInfo
 refine wpList_append_own w hgd s x 278 ho base 281 i _ 7 88 Tryz.underlying278 hi hz hsz hby rfl (by omega) v n _ hs hown ad m c _ hx (by rw [flat_len _ 7 evals_len,hr]) hnews (flat_one _ evals_one r) (by unfold maxLen; omega) hb hbase (fun v' w' h2 h3 _=>?_)
 refine h v' w' (by rw [List.flatMap_append]; exact h2) ((Below.refl base w).grown h3 hbase fun k hk=>(hown.lt k hk).1)

theorem spInfo:(Tryz.prog.info? 196).map (fun i=>(i.zero,i.size,i.bytes))=some (some (.agg #[.int .i64 0,.int .u64 0,.int .u64 0,.int .u64 0,.slice none 0 0,.slice none 0 0,.int .i64 0,.int .u64 0,.int .u64 0,.int .u64 0,.slice none 0 0,.slice none 0 0]),12,160):=by kernel_rfl
theorem wpList_append_sp (w:World) {ops:Array Oper} {rest:List Oper} {o:Oper} {a:Act} {Q:Exit→Act→World→Prop} (hgd:o.guard=none) (s x:Operand)
  (ho:o.op=.call { callee:=.builtin .append,args:=#[s,x],argTypes:=#[123,123] })
  (base:Nat) (v:Value) (n:Nat) (l:List RSp) (hs:a.eval s=v) (hown:w.ownsRow base 196 12 v n (l.flatMap RSp.vals))
  (ad:Addr) (m c:Nat) (r:List RSp) (hx:a.eval x=.slice (some ad) m c) (hr:r.length=m) (hnews:∀ j u,(r.flatMap RSp.vals)[j]?=some u→w.cell? (ad.add j)=some u) (hb:(n+m) * 160≤140737488355328) (hbase:base≤w.heap.size)
  (h:∀ v' w',w'.ownsRow base 196 12 v' (n+m) ((l ++ r).flatMap RSp.vals)→Below base w w'→wpList Tryz.prog ops Q rest (a.put o.dst v') w'):wpList Tryz.prog ops Q (o :: rest) a w:=by
 obtain ⟨i,hi,hz,hsz,hby⟩:=info_parts spInfo
 refine wpList_append_own w hgd s x 123 ho base 196 i _ 12 160 Tryz.underlying123 hi hz hsz hby rfl (by omega) v n _ hs hown ad m c _ hx (by rw [flat_len _ 12 svals_len,hr]) hnews (flat_one _ svals_one r) (by unfold maxLen; omega) hb hbase (fun v' w' h2 h3 _=>?_)
 refine h v' w' (by rw [List.flatMap_append]; exact h2) ((Below.refl base w).grown h3 hbase fun k hk=>(hown.lt k hk).1)

theorem run_append_sp (w:World) (ty:TypeId) (base:Nat) (v:Value) (n:Nat) (l:List RSp) (hown:w.ownsRow base 196 12 v n (l.flatMap RSp.vals)) (ad:Addr) (m c:Nat) (r:List RSp) (hr:r.length=m) (hnews:∀ j u,(r.flatMap RSp.vals)[j]?=some u→w.cell? (ad.add j)=some u) (hb:(n+m) * 160≤140737488355328) (hbase:base≤w.heap.size) :
  ∃ v' w',(Builtin.append_ #[123,123] ty #[v,.slice (some ad) m c]).run Tryz.prog w=.ok v' w'∧w'.ownsRow base 196 12 v' (n+m) ((l ++ r).flatMap RSp.vals)∧w.grownBy w' v.ownBlock:=by
 obtain ⟨i,hi,hz,hs,hby⟩:=info_parts spInfo
 obtain ⟨v',w',h3,h4,h5,_⟩:=run_append_own (P:=Tryz.prog) w base 123 ty 196 i _ 12 160 Tryz.underlying123 hi hz hs hby rfl (by omega) v n _ hown ad m c (r.flatMap RSp.vals)
  (by rw [flat_len _ 12 svals_len,hr]) hnews (flat_one _ svals_one r) (by unfold maxLen; omega) hb hbase
 exact ⟨v',w',h3,by rw [List.flatMap_append]; exact h4,h5⟩
end Go.Proofs.YtgakcdcfblgagaaGreatDoor.Span
namespace Go.Proofs.YtgakcdcfblgagaaGreatDoor.Prec
open Go.RowKit Num Ident Semver

theorem refFirst_int (p q r:Int) (w:World) :
  Calls Tryz.prog 183 #[.int .u64 p,.int .u64 q,.int .u64 r] w (FirstZ w p q r):=by
 go_enter Tryz.func183,Tryz.ntmps183
 go_wp2
 refine bodyPost_ret (v:=.agg #[.int .u64 p,.int .u64 q,.int .u64 r,.slice (some ⟨w.heap.size+1,0,none⟩) 1 1,.slice none 0 0]) (by simp [results,Tryz.results183,go_sem]) rfl ?_
 refine ⟨some ⟨w.heap.size+1,0,none⟩,rfl,?_,((Below.refl _ _).alloc (Nat.le_refl _) _).alloc (by simp) _⟩
 have:=SRow.one (w.alloc (.cells #[.int .u64 p,.int .u64 q,.int .u64 r,.slice (some ⟨w.heap.size+1,0,none⟩) 1 1,.slice none 0 0] 37)) [48]
 rw [size_alloc] at this; exact this
theorem refTilde_yes (p q r:Int) (X Y:Value) (w:World) (h0:0≤q) (h1:q<9223372036854775807) :
  Calls Tryz.prog 125 #[.agg #[.int .u64 p,.int .u64 q,.int .u64 r,X,Y]] w (EndZ w p (q+1) 0):=by
 have HB0:Hid (Below w.heap.size w ((w.alloc (.cells #[.int .u64 p,.int .u64 q,.int .u64 r,X,Y] 37)).alloc false)):=((Below.refl _ _).alloc (Nat.le_refl _) _).alloc (by simp) _
 have K1:Hid (At5 ((w.alloc (.cells #[.int .u64 p,.int .u64 q,.int .u64 r,X,Y] 37)).alloc false) w.heap.size (.int .u64 p) (.int .u64 q) (.int .u64 r) (X) (Y)):=(At5.new w 37 _ _ _ _ _).kept ((Below.refl _ _).alloc (Nat.le_refl _) _) (by simp)
 have K2:Hid (At5 ((w.alloc (.cells #[.int .u64 p,.int .u64 q,.int .u64 r,X,Y] 37)).alloc false) (w.heap.size+1) (.int .u64 0) (.int .u64 0) (.int .u64 0) (.slice none 0 0) (.slice none 0 0)):=by
  have:=At5.new (w.alloc (.cells #[.int .u64 p,.int .u64 q,.int .u64 r,X,Y] 37)) 37 (.int .u64 0) (.int .u64 0) (.int .u64 0) (.slice none 0 0) (.slice none 0 0)
  rw [size_alloc] at this; exact this
 go_enter Tryz.func125,Tryz.ntmps125
 go_upto_region 1 with (fail)
 generalize ((w.alloc (.cells #[.int .u64 p,.int .u64 q,.int .u64 r,X,Y] 37)).alloc false)=W at HB0 K1 K2 ⊢
 obtain ⟨hz0,_,x0,x1,x2,x3,x4⟩:=K1.out
 obtain ⟨hz1,_,y0,y1,y2,y3,y4⟩:=K2.out
 go_wp2_with fail
 refine (refFirst_int _ _ _ _).mono ?_
 rintro e w3 ⟨A,rfl,hr,hb3⟩
 have N2:=Lib.hid (K2.out.kept hb3 hz1)
 have B3:=Lib.hid (HB0.out.trans (hb3.mono (by omega)))
 obtain ⟨hz3,hf,g0,g1,g2,g3,g4⟩:=N2.out
 have R:=Lib.hid (hr.set5 g0 g1 g2 g3 g4 (by simp) (by simp) (by simp) (by simp) (by simp) (.int .u64 p) (.int .u64 (q+1)) (.int .u64 0) (.slice A 1 1) (.slice none 0 0))
 have B4:Hid (Below w.heap.size w (set5 w3 (w.heap.size+1) (.int .u64 p) (.int .u64 (q+1)) (.int .u64 0) (.slice A 1 1) (.slice none 0 0))):=(((((B3.out.setCell (by simp) _).setCell (by simp) _).setCell (by simp) _).setCell (by simp) _).setCell (by simp) _)
 have N3:=Lib.hid (N2.out.set5 (.int .u64 p) (.int .u64 (q+1)) (.int .u64 0) (.slice A 1 1) (.slice none 0 0))
 clear hr hb3 x0 x1 x2 x3 x4 y0 y1 y2 y3 y4
 unfold set5 at B4 N3
 go_wp2
 generalize (((((w3.setCell ⟨w.heap.size+1,0,none⟩ (.int .u64 p)).setCell ⟨w.heap.size+1,1,none⟩ (.int .u64 (q+1))).setCell ⟨w.heap.size+1,2,none⟩ (.int .u64 0)).setCell ⟨w.heap.size+1,3,none⟩ (.slice A 1 1)).setCell ⟨w.heap.size+1,4,none⟩ (.slice none 0 0))=w4 at R B4 N3 ⊢
 obtain ⟨_,_,z0,z1,z2,z3,z4⟩:=N3.out
 exact bodyPost_ret (v:=.tuple #[.agg #[.int .u64 p,.int .u64 (q+1),.int .u64 0,.slice A 1 1,.slice none 0 0],.bool true]) (by simp [results,Tryz.results125,go_sem,z0,z1,z2,z3,z4]) rfl ⟨A,rfl,R.out,B4.out⟩

theorem refTilde_no (p q r:Int) (X Y:Value) (w:World) (h1:9223372036854775807≤q) :
  Calls Tryz.prog 125 #[.agg #[.int .u64 p,.int .u64 q,.int .u64 r,X,Y]] w (NoneZ w):=by
 have HB0:Hid (Below w.heap.size w ((w.alloc (.cells #[.int .u64 p,.int .u64 q,.int .u64 r,X,Y] 37)).alloc false)):=((Below.refl _ _).alloc (Nat.le_refl _) _).alloc (by simp) _
 have K1:Hid (At5 ((w.alloc (.cells #[.int .u64 p,.int .u64 q,.int .u64 r,X,Y] 37)).alloc false) w.heap.size (.int .u64 p) (.int .u64 q) (.int .u64 r) (X) (Y)):=(At5.new w 37 _ _ _ _ _).kept ((Below.refl _ _).alloc (Nat.le_refl _) _) (by simp)
 have K2:Hid (At5 ((w.alloc (.cells #[.int .u64 p,.int .u64 q,.int .u64 r,X,Y] 37)).alloc false) (w.heap.size+1) (.int .u64 0) (.int .u64 0) (.int .u64 0) (.slice none 0 0) (.slice none 0 0)):=by
  have:=At5.new (w.alloc (.cells #[.int .u64 p,.int .u64 q,.int .u64 r,X,Y] 37)) 37 (.int .u64 0) (.int .u64 0) (.int .u64 0) (.slice none 0 0) (.slice none 0 0)
  rw [size_alloc] at this; exact this
 go_enter Tryz.func125,Tryz.ntmps125
 go_wp2
 exact bodyPost_ret (v:=.tuple #[.agg #[.int .u64 0,.int .u64 0,.int .u64 0,.slice none 0 0,.slice none 0 0],.bool false]) (by simp [results,Tryz.results125,go_sem]) rfl ⟨rfl,HB0.out⟩

theorem refTilde_any (v:Ver) (A:Option Addr) (c:Nat) (B:Option Addr) (d:Nat) (w:World) :
  Calls Tryz.prog 125 #[.agg #[v.a,v.b,v.c,.slice A v.pre.length c,.slice B v.build.length d]] w (EndPost w (tildeV v)):=by
 unfold tildeV
 by_cases h:(9223372036854775807:Int)≤(v.b:Int)
 ·rw [end_1_no h]
  exact (refTilde_no _ _ _ _ _ w h).mono fun e w' hk=>EndPost.of_none hk
 ·rw [end_1_yes (by omega)]
  exact (refTilde_yes _ _ _ _ _ w (by omega) (by omega)).mono fun e w' hk=>EndPost.of_end hk (by omega) (by omega) (by omega)

theorem refCaret_a (p q r:Int) (X Y:Value) (w:World) (h0:0<p) (h1:p<9223372036854775807) :
  Calls Tryz.prog 124 #[.agg #[.int .u64 p,.int .u64 q,.int .u64 r,X,Y]] w (EndZ w (p+1) 0 0):=by
 have HB0:Hid (Below w.heap.size w ((w.alloc (.cells #[.int .u64 p,.int .u64 q,.int .u64 r,X,Y] 37)).alloc false)):=((Below.refl _ _).alloc (Nat.le_refl _) _).alloc (by simp) _
 have K1:Hid (At5 ((w.alloc (.cells #[.int .u64 p,.int .u64 q,.int .u64 r,X,Y] 37)).alloc false) w.heap.size (.int .u64 p) (.int .u64 q) (.int .u64 r) (X) (Y)):=(At5.new w 37 _ _ _ _ _).kept ((Below.refl _ _).alloc (Nat.le_refl _) _) (by simp)
 have K2:Hid (At5 ((w.alloc (.cells #[.int .u64 p,.int .u64 q,.int .u64 r,X,Y] 37)).alloc false) (w.heap.size+1) (.int .u64 0) (.int .u64 0) (.int .u64 0) (.slice none 0 0) (.slice none 0 0)):=by
  have:=At5.new (w.alloc (.cells #[.int .u64 p,.int .u64 q,.int .u64 r,X,Y] 37)) 37 (.int .u64 0) (.int .u64 0) (.int .u64 0) (.slice none 0 0) (.slice none 0 0)
  rw [size_alloc] at this; exact this
 go_enter Tryz.func124,Tryz.ntmps124
 go_upto_region 1 with (fail)
 generalize ((w.alloc (.cells #[.int .u64 p,.int .u64 q,.int .u64 r,X,Y] 37)).alloc false)=W at HB0 K1 K2 ⊢
 obtain ⟨hz0,_,x0,x1,x2,x3,x4⟩:=K1.out
 obtain ⟨hz1,_,y0,y1,y2,y3,y4⟩:=K2.out
 go_wp2_with fail
 refine (refFirst_int _ _ _ _).mono ?_
 rintro e w3 ⟨A,rfl,hr,hb3⟩
 have N2:=Lib.hid (K2.out.kept hb3 hz1)
 have B3:=Lib.hid (HB0.out.trans (hb3.mono (by omega)))
 obtain ⟨hz3,hf,g0,g1,g2,g3,g4⟩:=N2.out
 have R:=Lib.hid (hr.set5 g0 g1 g2 g3 g4 (by simp) (by simp) (by simp) (by simp) (by simp) (.int .u64 (p+1)) (.int .u64 0) (.int .u64 0) (.slice A 1 1) (.slice none 0 0))
 have B4:Hid (Below w.heap.size w (set5 w3 (w.heap.size+1) (.int .u64 (p+1)) (.int .u64 0) (.int .u64 0) (.slice A 1 1) (.slice none 0 0))):=(((((B3.out.setCell (by simp) _).setCell (by simp) _).setCell (by simp) _).setCell (by simp) _).setCell (by simp) _)
 have N3:=Lib.hid (N2.out.set5 (.int .u64 (p+1)) (.int .u64 0) (.int .u64 0) (.slice A 1 1) (.slice none 0 0))
 clear hr hb3 x0 x1 x2 x3 x4 y0 y1 y2 y3 y4
 unfold set5 at B4 N3
 go_wp2
 generalize (((((w3.setCell ⟨w.heap.size+1,0,none⟩ (.int .u64 (p+1))).setCell ⟨w.heap.size+1,1,none⟩ (.int .u64 0)).setCell ⟨w.heap.size+1,2,none⟩ (.int .u64 0)).setCell ⟨w.heap.size+1,3,none⟩ (.slice A 1 1)).setCell ⟨w.heap.size+1,4,none⟩ (.slice none 0 0))=w4 at R B4 N3 ⊢
 obtain ⟨_,_,z0,z1,z2,z3,z4⟩:=N3.out
 exact bodyPost_ret (v:=.tuple #[.agg #[.int .u64 (p+1),.int .u64 0,.int .u64 0,.slice A 1 1,.slice none 0 0],.bool true]) (by simp [results,Tryz.results124,go_sem,z0,z1,z2,z3,z4]) rfl ⟨A,rfl,R.out,B4.out⟩

theorem refCaret_na (p q r:Int) (X Y:Value) (w:World) (h0:0<p) (h1:9223372036854775807≤p) :
  Calls Tryz.prog 124 #[.agg #[.int .u64 p,.int .u64 q,.int .u64 r,X,Y]] w (NoneZ w):=by
 have HB0:Hid (Below w.heap.size w ((w.alloc (.cells #[.int .u64 p,.int .u64 q,.int .u64 r,X,Y] 37)).alloc false)):=((Below.refl _ _).alloc (Nat.le_refl _) _).alloc (by simp) _
 have K1:Hid (At5 ((w.alloc (.cells #[.int .u64 p,.int .u64 q,.int .u64 r,X,Y] 37)).alloc false) w.heap.size (.int .u64 p) (.int .u64 q) (.int .u64 r) (X) (Y)):=(At5.new w 37 _ _ _ _ _).kept ((Below.refl _ _).alloc (Nat.le_refl _) _) (by simp)
 have K2:Hid (At5 ((w.alloc (.cells #[.int .u64 p,.int .u64 q,.int .u64 r,X,Y] 37)).alloc false) (w.heap.size+1) (.int .u64 0) (.int .u64 0) (.int .u64 0) (.slice none 0 0) (.slice none 0 0)):=by
  have:=At5.new (w.alloc (.cells #[.int .u64 p,.int .u64 q,.int .u64 r,X,Y] 37)) 37 (.int .u64 0) (.int .u64 0) (.int .u64 0) (.slice none 0 0) (.slice none 0 0)
  rw [size_alloc] at this; exact this
 go_enter Tryz.func124,Tryz.ntmps124
 go_wp2
 exact bodyPost_ret (v:=.tuple #[.agg #[.int .u64 0,.int .u64 0,.int .u64 0,.slice none 0 0,.slice none 0 0],.bool false]) (by simp [results,Tryz.results124,go_sem]) rfl ⟨rfl,HB0.out⟩

theorem refCaret_c (p q r:Int) (X Y:Value) (w:World) (h0:p≤0) (h2:q≤0) (h3:0≤r) (h1:r<9223372036854775807) :
  Calls Tryz.prog 124 #[.agg #[.int .u64 p,.int .u64 q,.int .u64 r,X,Y]] w (EndZ w 0 0 (r+1)):=by
 have HB0:Hid (Below w.heap.size w ((w.alloc (.cells #[.int .u64 p,.int .u64 q,.int .u64 r,X,Y] 37)).alloc false)):=((Below.refl _ _).alloc (Nat.le_refl _) _).alloc (by simp) _
 have K1:Hid (At5 ((w.alloc (.cells #[.int .u64 p,.int .u64 q,.int .u64 r,X,Y] 37)).alloc false) w.heap.size (.int .u64 p) (.int .u64 q) (.int .u64 r) (X) (Y)):=(At5.new w 37 _ _ _ _ _).kept ((Below.refl _ _).alloc (Nat.le_refl _) _) (by simp)
 have K2:Hid (At5 ((w.alloc (.cells #[.int .u64 p,.int .u64 q,.int .u64 r,X,Y] 37)).alloc false) (w.heap.size+1) (.int .u64 0) (.int .u64 0) (.int .u64 0) (.slice none 0 0) (.slice none 0 0)):=by
  have:=At5.new (w.alloc (.cells #[.int .u64 p,.int .u64 q,.int .u64 r,X,Y] 37)) 37 (.int .u64 0) (.int .u64 0) (.int .u64 0) (.slice none 0 0) (.slice none 0 0)
  rw [size_alloc] at this; exact this
 go_enter Tryz.func124,Tryz.ntmps124
 go_upto_region 1 with (fail)
 generalize ((w.alloc (.cells #[.int .u64 p,.int .u64 q,.int .u64 r,X,Y] 37)).alloc false)=W at HB0 K1 K2 ⊢
 obtain ⟨hz0,_,x0,x1,x2,x3,x4⟩:=K1.out
 obtain ⟨hz1,_,y0,y1,y2,y3,y4⟩:=K2.out
 go_wp2_with fail
 refine (refFirst_int _ _ _ _).mono ?_
 rintro e w3 ⟨A,rfl,hr,hb3⟩
 have N2:=Lib.hid (K2.out.kept hb3 hz1)
 have B3:=Lib.hid (HB0.out.trans (hb3.mono (by omega)))
 obtain ⟨hz3,hf,g0,g1,g2,g3,g4⟩:=N2.out
 have R:=Lib.hid (hr.set5 g0 g1 g2 g3 g4 (by simp) (by simp) (by simp) (by simp) (by simp) (.int .u64 0) (.int .u64 0) (.int .u64 (r+1)) (.slice A 1 1) (.slice none 0 0))
 have B4:Hid (Below w.heap.size w (set5 w3 (w.heap.size+1) (.int .u64 0) (.int .u64 0) (.int .u64 (r+1)) (.slice A 1 1) (.slice none 0 0))):=(((((B3.out.setCell (by simp) _).setCell (by simp) _).setCell (by simp) _).setCell (by simp) _).setCell (by simp) _)
 have N3:=Lib.hid (N2.out.set5 (.int .u64 0) (.int .u64 0) (.int .u64 (r+1)) (.slice A 1 1) (.slice none 0 0))
 clear hr hb3 x0 x1 x2 x3 x4 y0 y1 y2 y3 y4
 unfold set5 at B4 N3
 go_wp2
 generalize (((((w3.setCell ⟨w.heap.size+1,0,none⟩ (.int .u64 0)).setCell ⟨w.heap.size+1,1,none⟩ (.int .u64 0)).setCell ⟨w.heap.size+1,2,none⟩ (.int .u64 (r+1))).setCell ⟨w.heap.size+1,3,none⟩ (.slice A 1 1)).setCell ⟨w.heap.size+1,4,none⟩ (.slice none 0 0))=w4 at R B4 N3 ⊢
 obtain ⟨_,_,z0,z1,z2,z3,z4⟩:=N3.out
 exact bodyPost_ret (v:=.tuple #[.agg #[.int .u64 0,.int .u64 0,.int .u64 (r+1),.slice A 1 1,.slice none 0 0],.bool true]) (by simp [results,Tryz.results124,go_sem,z0,z1,z2,z3,z4]) rfl ⟨A,rfl,R.out,B4.out⟩

theorem refCaret_nc (p q r:Int) (X Y:Value) (w:World) (h0:p≤0) (h2:q≤0) (h1:9223372036854775807≤r) :
  Calls Tryz.prog 124 #[.agg #[.int .u64 p,.int .u64 q,.int .u64 r,X,Y]] w (NoneZ w):=by
 have HB0:Hid (Below w.heap.size w ((w.alloc (.cells #[.int .u64 p,.int .u64 q,.int .u64 r,X,Y] 37)).alloc false)):=((Below.refl _ _).alloc (Nat.le_refl _) _).alloc (by simp) _
 have K1:Hid (At5 ((w.alloc (.cells #[.int .u64 p,.int .u64 q,.int .u64 r,X,Y] 37)).alloc false) w.heap.size (.int .u64 p) (.int .u64 q) (.int .u64 r) (X) (Y)):=(At5.new w 37 _ _ _ _ _).kept ((Below.refl _ _).alloc (Nat.le_refl _) _) (by simp)
 have K2:Hid (At5 ((w.alloc (.cells #[.int .u64 p,.int .u64 q,.int .u64 r,X,Y] 37)).alloc false) (w.heap.size+1) (.int .u64 0) (.int .u64 0) (.int .u64 0) (.slice none 0 0) (.slice none 0 0)):=by
  have:=At5.new (w.alloc (.cells #[.int .u64 p,.int .u64 q,.int .u64 r,X,Y] 37)) 37 (.int .u64 0) (.int .u64 0) (.int .u64 0) (.slice none 0 0) (.slice none 0 0)
  rw [size_alloc] at this; exact this
 go_enter Tryz.func124,Tryz.ntmps124
 go_wp2
 exact bodyPost_ret (v:=.tuple #[.agg #[.int .u64 0,.int .u64 0,.int .u64 0,.slice none 0 0,.slice none 0 0],.bool false]) (by simp [results,Tryz.results124,go_sem]) rfl ⟨rfl,HB0.out⟩

theorem refCaret_b (p q r:Int) (X Y:Value) (o:Option Ver) (w:World) (h0:p≤0) (h1:0<q)
  (HE:Hid (∀ W,Calls Tryz.prog 125 #[.agg #[.int .u64 p,.int .u64 q,.int .u64 r,X,Y]] W (EndPost W o))) :
  Calls Tryz.prog 124 #[.agg #[.int .u64 p,.int .u64 q,.int .u64 r,X,Y]] w (EndPost w o):=by
 have HB0:Hid (Below w.heap.size w ((w.alloc (.cells #[.int .u64 p,.int .u64 q,.int .u64 r,X,Y] 37)).alloc false)):=((Below.refl _ _).alloc (Nat.le_refl _) _).alloc (by simp) _
 have K1:Hid (At5 ((w.alloc (.cells #[.int .u64 p,.int .u64 q,.int .u64 r,X,Y] 37)).alloc false) w.heap.size (.int .u64 p) (.int .u64 q) (.int .u64 r) (X) (Y)):=(At5.new w 37 _ _ _ _ _).kept ((Below.refl _ _).alloc (Nat.le_refl _) _) (by simp)
 have K2:Hid (At5 ((w.alloc (.cells #[.int .u64 p,.int .u64 q,.int .u64 r,X,Y] 37)).alloc false) (w.heap.size+1) (.int .u64 0) (.int .u64 0) (.int .u64 0) (.slice none 0 0) (.slice none 0 0)):=by
  have:=At5.new (w.alloc (.cells #[.int .u64 p,.int .u64 q,.int .u64 r,X,Y] 37)) 37 (.int .u64 0) (.int .u64 0) (.int .u64 0) (.slice none 0 0) (.slice none 0 0)
  rw [size_alloc] at this; exact this
 have HP':Hid (∀ e w',EndIs w (verOf o) o.isSome e w'→EndPost w o e w'):=fun _ _ h=>h
 go_enter Tryz.func124,Tryz.ntmps124
 go_upto_region 1 with (fail)
 generalize ((w.alloc (.cells #[.int .u64 p,.int .u64 q,.int .u64 r,X,Y] 37)).alloc false)=W at HB0 K1 K2 ⊢
 obtain ⟨hz0,_,x0,x1,x2,x3,x4⟩:=K1.out
 obtain ⟨hz1,_,y0,y1,y2,y3,y4⟩:=K2.out
 go_wp2_with fail
 refine (HE.out _).mono ?_
 rintro e w3 ⟨A',c',rfl,hr,hbu,hb3⟩
 have HU:=Lib.hid hbu
 generalize verOf o=x at hr HU HP' ⊢
 generalize o.isSome=s at HP' ⊢
 have N2:=Lib.hid (K2.out.kept hb3 hz1)
 have B3:=Lib.hid (HB0.out.trans (hb3.mono (by omega)))
 obtain ⟨hz3,hf,g0,g1,g2,g3,g4⟩:=N2.out
 have R:=Lib.hid (hr.set5 g0 g1 g2 g3 g4 (by simp) (by simp) (by simp) (by simp) (by simp) x.a x.b x.c (.slice A' x.pre.length c') (.slice none x.build.length 0))
 have B4:Hid (Below w.heap.size w (set5 w3 (w.heap.size+1) x.a x.b x.c (.slice A' x.pre.length c') (.slice none x.build.length 0))):=(((((B3.out.setCell (by simp) _).setCell (by simp) _).setCell (by simp) _).setCell (by simp) _).setCell (by simp) _)
 have N3:=Lib.hid (N2.out.set5 x.a x.b x.c (.slice A' x.pre.length c') (.slice none x.build.length 0))
 clear hr hb3 x0 x1 x2 x3 x4 y0 y1 y2 y3 y4
 unfold set5 at B4 N3
 go_wp2
 generalize (((((w3.setCell ⟨w.heap.size+1,0,none⟩ x.a).setCell ⟨w.heap.size+1,1,none⟩ x.b).setCell ⟨w.heap.size+1,2,none⟩ x.c).setCell ⟨w.heap.size+1,3,none⟩ (.slice A' x.pre.length c')).setCell ⟨w.heap.size+1,4,none⟩ (.slice none x.build.length 0))=w4 at R B4 N3 ⊢
 obtain ⟨_,_,z0,z1,z2,z3,z4⟩:=N3.out
 exact bodyPost_ret (v:=.tuple #[.agg #[x.a,x.b,x.c,.slice A' x.pre.length c',.slice none x.build.length 0],.bool s]) (by simp [results,Tryz.results124,go_sem,z0,z1,z2,z3,z4]) rfl (HP'.out _ _ ⟨A',c',rfl,R.out,HU.out,B4.out⟩)

theorem refCaret_any (v:Ver) (A:Option Addr) (c:Nat) (B:Option Addr) (d:Nat) (w:World) :
  Calls Tryz.prog 124 #[.agg #[v.a,v.b,v.c,.slice A v.pre.length c,.slice B v.build.length d]] w (EndPost w (caretV v)):=by
 by_cases h0:v.a=0
 ·by_cases h1:v.b=0
  ·rw [caret_2 h0 h1]
   by_cases h:(9223372036854775807:Int)≤(v.c:Int)
   ·rw [end_2_no h]
    exact (refCaret_nc _ _ _ _ _ w (by omega) (by omega) h).mono fun e w' hk=>EndPost.of_none hk
   ·rw [end_2_yes (by omega)]
    exact (refCaret_c _ _ _ _ _ w (by omega) (by omega) (by omega) (by omega)).mono fun e w' hk=>EndPost.of_end hk (by omega) (by omega) (by omega)
  ·have e:caretV v=tildeV v:=caret_1 h0 h1
   rw [e]
   exact refCaret_b _ _ _ _ _ _ w (by omega) (by omega) (Lib.hid fun W=>refTilde_any v A c B d W)
 ·rw [caret_0 h0]
  by_cases h:(9223372036854775807:Int)≤(v.a:Int)
  ·rw [end_0_no h]
   exact (refCaret_na _ _ _ _ _ w (by omega) h).mono fun e w' hk=>EndPost.of_none hk
  ·rw [end_0_yes (by omega)]
   exact (refCaret_a _ _ _ _ _ w (by omega) (by omega)).mono fun e w' hk=>EndPost.of_end hk (by omega) (by omega) (by omega)
end Go.Proofs.YtgakcdcfblgagaaGreatDoor.Prec
namespace Go.Proofs.YtgakcdcfblgagaaGreatDoor.Came
open Go.ChangeShapes Go.WideShapes Go.RowKit Go.Deep

theorem kind_read {H:Type} {enc:TypeId × Value→H} {W:World} {n:Nat} {z:Value} {y:DataW H × List MemPlace} (h:DataW.trod enc Tryz.prog W 0 (fun _=>true) true n 3 [z]=some y):∃ k:Int,z=.int .i64 k:=by
 obtain ⟨m,hm,_,_⟩:=DataW.trod_int Tryz.underlying3 h
 simp at hm
 exact ⟨m,hm⟩
theorem list_of {α:Type} [Inhabited α] {P:Nat→α→Prop}:∀ (n:Nat),(∀ i,i<n→∃ x,P i x)→∃ l:List α,l.length=n∧∀ i,i<n→P i (l.getD i default)
 | 0,_=>⟨[],rfl,fun i hi=>by omega⟩
 | n+1,h=>by
  obtain ⟨l,hl,hp⟩:=list_of n fun i hi=>h i (by omega)
  obtain ⟨x,hx⟩:=h n (by omega)
  refine ⟨l ++ [x],by simp [hl],fun i hi=>?_⟩
  rcases Nat.lt_or_ge i n with h1 | h1
  ·have e:(l ++ [x]).getD i default=l.getD i default:=by simp [List.getD,List.getElem?_append_left (show i<l.length by omega)]
   rw [e]; exact hp i h1
  ·obtain rfl:i=n:=by omega
   have e:(l ++ [x]).getD i default=x:=by simp [List.getD,← hl]
   rw [e]; exact hx
end Go.Proofs.YtgakcdcfblgagaaGreatDoor.Came
