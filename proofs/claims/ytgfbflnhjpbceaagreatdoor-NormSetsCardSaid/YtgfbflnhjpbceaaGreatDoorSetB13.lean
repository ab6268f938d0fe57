/-
  What the theorem of the last text needs of these: SpCuts, SpOwn, SpZero, RgStep. Conditions: as each theorem states.
-/
import Derived.Test.YtgfbflnhjpbceaaGreatDoorSetB1
import Derived.Test.YtgfbflnhjpbceaaGreatDoorSetB2
import Derived.Test.YtgfbflnhjpbceaaGreatDoorSetB7
import Derived.Test.YtgfbflnhjpbceaaGreatDoorSetB11
import Derived.Test.YtgfbflnhjpbceaaGreatDoorSetB12
import Derived.Deep.CutBlock
import Derived.Deep.DeepCutAuto
set_option maxRecDepth 100000
set_option maxHeartbeats 25600000
namespace Go.Proofs.YtgfbflnhjpbceaaGreatDoor.Span
open Go.RowKit Num Ident Semver Prec

theorem cmpI_any (x y:Int) (w:World) :
  Calls Tryz.prog 80 #[.int .i64 x,.int .i64 y] w fun e w'=>e=.returned (.int .i64 (ordI x y))∧w=w':=by
 rcases Int.lt_trichotomy x y with h | h | h
 ·have HF:=Lib.hid (ordI_lt h)
  go_enter Tryz.func80,Tryz.ntmps80
  go_wp2
  go_ret
  exact ⟨by rw [HF.out]; rfl,rfl⟩
 ·have HF:=Lib.hid (ordI_eq h)
  subst h
  go_enter Tryz.func80,Tryz.ntmps80
  go_wp2
  go_ret
  exact ⟨by rw [HF.out]; rfl,rfl⟩
 ·have HF:=Lib.hid (ordI_gt h)
  go_enter Tryz.func80,Tryz.ntmps80
  go_wp2
  go_ret
  exact ⟨by rw [HF.out]; rfl,rfl⟩
theorem same_none (v:Ver) (A:Option Addr) (c:Nat) (B:Option Addr) (d:Nat) (w:World) (r1:SRow w A v.pre.length v.pre) (r2:SRow w B v.build.length v.build) (h1:v.pre.length≤maxLen) (h2:v.build.length≤maxLen) :
  Calls Tryz.prog 56 #[.agg #[v.a,v.b,v.c,.slice A v.pre.length c,.slice B v.build.length d],.agg #[.int .u64 0,.int .u64 0,.int .u64 0,.slice none 0 0,.slice none 0 0]] w fun e w'=>e=.returned (.bool (sameV v noVer))∧Below w.heap.size w w' :=
 same_parts A v.pre.length c v.pre B v.build.length d v.build none 0 0 [] none 0 0 [] v.a v.b v.c 0 0 0 w r1 r2 (SRow.none_ _ _) (SRow.none_ _ _) h1 h2 (Nat.zero_le _) (Nat.zero_le _)

theorem right_any (r:RCut) (w:World) (h:Lies w r) :
  Calls Tryz.prog 79 #[.agg #[r.kind,r.v.a,r.v.b,r.v.c,.slice r.A r.v.pre.length r.c,.slice r.B r.v.build.length r.d]] w fun e w'=>e=.returned (.bool (right r.cut))∧Below w.heap.size w w':=by
 have HBa:Hid (Below w.heap.size w (w.alloc r)):=(Below.refl _ _).alloc (Nat.le_refl _) _
 have HL:=Lib.hid (h.kept HBa.out)
 have K0:Hid (At6B (w.alloc r) w.heap.size r.kind r.v.a r.v.b r.v.c (.slice r.A r.v.pre.length r.c) (.slice r.B r.v.build.length r.d)):=At6B.new w _ _ _ _ _ _ _
 clear h
 have HR:Hid (right r.cut=right ⟨r.kind,r.v⟩):=rfl
 by_cases h0:r.kind=0∨r.kind=3
 ·have HF:Hid (right r.cut=sameV r.v noVer):=right_ends h0
  have hs:(r.kind == 0)=true∨((r.kind == 0)=false∧(r.kind == 3)=true):=by
   rcases h0 with h0 | h0
   ·left; simp [h0]
   ·right; simp [h0]
  clear h0 HR
  rcases hs with e0 | ⟨e0,e3⟩
  all_goals
   go_enter Tryz.func79,Tryz.ntmps79
   go_upto_region 1 with (fail)
   generalize (w.alloc r)=W at HBa HL K0 ⊢
   obtain ⟨hz,_,x0,x1,x2,x3,x4,x5⟩:=K0.out
   go_wp2_with fail
   refine (same_none r.v r.A r.c r.B r.d _ HL.out.pre HL.out.build HL.out.fpre.1 HL.out.fbuild.1).mono ?_
   rintro e w1 ⟨rfl,hb1⟩
   have B1:=Lib.hid (HBa.out.trans (hb1.mono HBa.out.size))
   clear hb1 x0 x1 x2 x3 x4 x5
   go_wp2
   go_ret
   exact ⟨by rw [HF.out]; rfl,B1.out⟩
 have e0:(r.kind == 0)=false:=by simp; omega
 have e3:(r.kind == 3)=false:=by simp; omega
 by_cases h1:r.kind=1∨r.kind=2
 ·have HF:Hid (right r.cut=(goodV r.v && decide (r.v.build.length=0))):=right_ver h1
  have hs:(r.kind == 1)=true∨((r.kind == 1)=false∧(r.kind == 2)=true):=by
   rcases h1 with h1 | h1
   ·left; simp [h1]
   ·right; simp [h1]
  clear h0 h1 HR
  rcases hs with e1 | ⟨e1,e2⟩
  all_goals
   go_enter Tryz.func79,Tryz.ntmps79
   go_upto_region 1 with (fail)
   generalize (w.alloc r)=W at HBa HL K0 ⊢
   obtain ⟨hz,_,x0,x1,x2,x3,x4,x5⟩:=K0.out
   go_wp2_with fail
   refine (vgood_any r.v r.A r.c r.B r.d _ HL.out.pre HL.out.build HL.out.fpre.1 HL.out.fbuild.1 HL.out.fpre.2 HL.out.fbuild.2).mono ?_
   rintro e w1 ⟨rfl,hb1⟩
   have B1:=Lib.hid (HBa.out.trans (hb1.mono HBa.out.size))
   have K1:=Lib.hid (K0.out.kept hb1 hz)
   clear hb1 x0 x1 x2 x3 x4 x5 hz
   obtain ⟨hz,_,x0,x1,x2,x3,x4,x5⟩:=K1.out
   generalize goodV r.v=g at HF ⊢
   cases g
   ·go_wp2
    go_ret
    exact ⟨by rw [HF.out]; rfl,B1.out⟩
   ·by_cases hb:r.v.build.length=0
    ·have HF2:Hid (right r.cut=true):=by have:=HF.out; rw [this,decide_eq_true hb]; rfl
     have eb:((r.v.build.length:Int) == 0)=true:=by rw [beq_iff_eq]; omega
     clear HF hb
     go_wp2
     go_ret
     exact ⟨by rw [HF2.out]; rfl,B1.out⟩
    ·have HF2:Hid (right r.cut=false):=by have:=HF.out; rw [this,decide_eq_false hb]; rfl
     have eb:((r.v.build.length:Int) == 0)=false:=by rw [beq_eq_false_iff_ne]; omega
     clear HF hb
     go_wp2
     go_ret
     exact ⟨by rw [HF2.out]; rfl,B1.out⟩
 ·have HF:Hid (right r.cut=false):=right_none h0 h1
  have e1:(r.kind == 1)=false:=by simp; omega
  have e2:(r.kind == 2)=false:=by simp; omega
  clear h0 h1 HR
  go_enter Tryz.func79,Tryz.ntmps79
  go_upto_region 1 with (fail)
  generalize (w.alloc r)=W at HBa HL K0 ⊢
  obtain ⟨hz,_,x0,x1,x2,x3,x4,x5⟩:=K0.out
  go_wp2
  go_ret
  exact ⟨by rw [HF.out]; rfl,HBa.out⟩

theorem ofVer_any (r:RCut) (w:World) :
  Calls Tryz.prog 109 #[.agg #[r.kind,r.v.a,r.v.b,r.v.c,.slice r.A r.v.pre.length r.c,.slice r.B r.v.build.length r.d]] w fun e w'=>e=.returned (.bool (ofVer r.cut))∧BelowD w.heap.size w w':=by
 have HBa:Hid (BelowD w.heap.size w (w.alloc r)):=(BelowD.refl _ _).alloc (Nat.le_refl _) _
 have K0:Hid (At6B (w.alloc r) w.heap.size r.kind r.v.a r.v.b r.v.c (.slice r.A r.v.pre.length r.c) (.slice r.B r.v.build.length r.d)):=At6B.new w _ _ _ _ _ _ _
 by_cases h1:r.kind=1
 ·have HF:Hid (ofVer r.cut=true):=(ofVer_iff _).2 (.inl h1)
  have e1:(r.kind == 1)=true:=by simp [h1]
  clear h1
  go_enter Tryz.func109,Tryz.ntmps109
  go_upto_region 1 with (fail)
  generalize (w.alloc r)=W at HBa K0 ⊢
  obtain ⟨hz,_,x0,x1,x2,x3,x4,x5⟩:=K0.out
  go_wp2
  go_ret
  exact ⟨by rw [HF.out]; rfl,HBa.out⟩
 have e1:(r.kind == 1)=false:=by simp; omega
 by_cases h2:r.kind=2
 ·have HF:Hid (ofVer r.cut=true):=(ofVer_iff _).2 (.inr h2)
  have e2:(r.kind == 2)=true:=by simp [h2]
  clear h1 h2
  go_enter Tryz.func109,Tryz.ntmps109
  go_upto_region 1 with (fail)
  generalize (w.alloc r)=W at HBa K0 ⊢
  obtain ⟨hz,_,x0,x1,x2,x3,x4,x5⟩:=K0.out
  go_wp2
  go_ret
  exact ⟨by rw [HF.out]; rfl,HBa.out⟩
 ·have HF:Hid (ofVer r.cut=false):=(ofVer_no _).2 (by show ¬ (r.kind=1∨r.kind=2); omega)
  have e2:(r.kind == 2)=false:=by simp; omega
  clear h1 h2
  go_enter Tryz.func109,Tryz.ntmps109
  go_upto_region 1 with (fail)
  generalize (w.alloc r)=W at HBa K0 ⊢
  obtain ⟨hz,_,x0,x1,x2,x3,x4,x5⟩:=K0.out
  go_wp2
  go_ret
  exact ⟨by rw [HF.out]; rfl,HBa.out⟩

theorem stand_anyD (r s:RCut) (w:World) (h1:Lies w r) (h2:Lies w s) :
  Calls Tryz.prog 81 #[.agg #[r.kind,r.v.a,r.v.b,r.v.c,.slice r.A r.v.pre.length r.c,.slice r.B r.v.build.length r.d],.agg #[s.kind,s.v.a,s.v.b,s.v.c,.slice s.A s.v.pre.length s.c,.slice s.B s.v.build.length s.d]] w fun e w'=>e=.returned (.int .i64 (stand r.cut s.cut))∧BelowD w.heap.size w w':=by
 have HBa:Hid (BelowD w.heap.size w ((w.alloc r).alloc s)):=((BelowD.refl _ _).alloc (Nat.le_refl _) _).alloc (by simp) _
 have HL:=Lib.hid (h1.kept HBa.out.toBelow)
 have HM:=Lib.hid (h2.kept HBa.out.toBelow)
 have K0:Hid (At6B ((w.alloc r).alloc s) w.heap.size r.kind r.v.a r.v.b r.v.c (.slice r.A r.v.pre.length r.c) (.slice r.B r.v.build.length r.d)):=(At6B.new w _ _ _ _ _ _ _).kept ((Below.refl _ _).alloc (Nat.le_refl _) _) (by simp)
 have J0:Hid (At6B ((w.alloc r).alloc s) (w.heap.size+1) s.kind s.v.a s.v.b s.v.c (.slice s.A s.v.pre.length s.c) (.slice s.B s.v.build.length s.d)):=by
  have:=At6B.new (w.alloc r) 41 s.kind s.v.a s.v.b s.v.c (.slice s.A s.v.pre.length s.c) (.slice s.B s.v.build.length s.d)
  rw [size_alloc] at this; exact this
 clear h1 h2
 have HF:Hid (stand r.cut s.cut=if ofVer r.cut=true∧ofVer s.cut=true∧cmpV r.v s.v≠0 then cmpV r.v s.v else ordI r.kind s.kind):=rfl
 go_enter Tryz.func81,Tryz.ntmps81
 go_upto_region 1 with (fail)
 generalize ((w.alloc r).alloc s)=W at HBa HL HM K0 J0 ⊢
 obtain ⟨hz,_,x0,x1,x2,x3,x4,x5⟩:=K0.out
 obtain ⟨hy,_,y0,y1,y2,y3,y4,y5⟩:=J0.out
 go_wp2_with fail
 refine (ofVer_any r _).mono ?_
 rintro e w1 ⟨rfl,hb1⟩
 have K1:=Lib.hid (K0.out.kept hb1.toBelow hz)
 have J1:=Lib.hid (J0.out.kept hb1.toBelow hy)
 have L1:=Lib.hid (HL.out.kept hb1.toBelow)
 have M1:=Lib.hid (HM.out.kept hb1.toBelow)
 have B1:=Lib.hid (HBa.out.trans (hb1.mono HBa.out.size))
 clear hb1 hz hy
 clear x0 x1 x2 x3 x4 x5 y0 y1 y2 y3 y4 y5
 obtain ⟨hz1,_,x0,x1,x2,x3,x4,x5⟩:=K1.out
 obtain ⟨hy1,_,y0,y1,y2,y3,y4,y5⟩:=J1.out
 generalize ofVer r.cut=g1 at HF ⊢
 cases g1
 ·have HF2:Hid (stand r.cut s.cut=ordI r.kind s.kind):=by have:=HF.out; rw [if_neg (by rintro ⟨h,_⟩; cases h)] at this; exact this
  clear HF
  go_wp2_with fail
  refine (cmpI_any _ _ _).mono ?_
  rintro e w' ⟨rfl,rfl⟩
  go_wp2
  go_ret
  exact ⟨by rw [HF2.out]; rfl,B1.out⟩
 go_wp2_with fail
 refine (ofVer_any s _).mono ?_
 rintro e w2 ⟨rfl,hb2⟩
 have K2:=Lib.hid (K1.out.kept hb2.toBelow hz1)
 have J2:=Lib.hid (J1.out.kept hb2.toBelow hy1)
 have L2:=Lib.hid (L1.out.kept hb2.toBelow)
 have M2:=Lib.hid (M1.out.kept hb2.toBelow)
 have B2:=Lib.hid (B1.out.trans (hb2.mono B1.out.size))
 clear hb2 hz1 hy1
 clear x0 x1 x2 x3 x4 x5 y0 y1 y2 y3 y4 y5
 obtain ⟨hz2,_,x0,x1,x2,x3,x4,x5⟩:=K2.out
 obtain ⟨hy2,_,y0,y1,y2,y3,y4,y5⟩:=J2.out
 generalize ofVer s.cut=g2 at HF ⊢
 cases g2
 ·have HF2:Hid (stand r.cut s.cut=ordI r.kind s.kind):=by have:=HF.out; rw [if_neg (by rintro ⟨_,h,_⟩; cases h)] at this; exact this
  clear HF
  go_wp2_with fail
  refine (cmpI_any _ _ _).mono ?_
  rintro e w' ⟨rfl,rfl⟩
  go_wp2
  go_ret
  exact ⟨by rw [HF2.out]; rfl,B2.out⟩
 go_wp2_with fail
 refine (Prec.compare_anyD r.v s.v r.A r.B s.A s.B r.c r.d s.c s.d _ L2.out.pre M2.out.pre L2.out.fpre M2.out.fpre).mono ?_
 rintro e w3 ⟨rfl,hb3⟩
 have K3:=Lib.hid (K2.out.kept hb3.toBelow hz2)
 have J3:=Lib.hid (J2.out.kept hb3.toBelow hy2)
 have B3:=Lib.hid (B2.out.trans (hb3.mono B2.out.size))
 clear hb3 hz2 hy2
 clear x0 x1 x2 x3 x4 x5 y0 y1 y2 y3 y4 y5
 obtain ⟨hz3,_,x0,x1,x2,x3,x4,x5⟩:=K3.out
 obtain ⟨hy3,_,y0,y1,y2,y3,y4,y5⟩:=J3.out
 generalize cmpV r.v s.v=c at HF ⊢
 by_cases hc:c=0
 ·have HF2:Hid (stand r.cut s.cut=ordI r.kind s.kind):=by have:=HF.out; rw [if_neg (fun h=>h.2.2 hc)] at this; exact this
  subst hc
  clear HF
  go_wp2_with fail
  refine (cmpI_any _ _ _).mono ?_
  rintro e w' ⟨rfl,rfl⟩
  go_wp2
  go_ret
  exact ⟨by rw [HF2.out]; rfl,B3.out⟩
 ·have HF2:Hid (stand r.cut s.cut=c):=by have:=HF.out; rw [if_pos (by simp [hc])] at this; exact this
  have hn:(c == 0)=false:=by simp [hc]
  have hn2:(c != 0)=true:=by simp [hc]
  clear HF hc
  go_wp2
  go_ret
  exact ⟨by rw [HF2.out]; rfl,B3.out⟩
theorem stand_any (r s:RCut) (w:World) (h1:Lies w r) (h2:Lies w s) :
  Calls Tryz.prog 81 #[.agg #[r.kind,r.v.a,r.v.b,r.v.c,.slice r.A r.v.pre.length r.c,.slice r.B r.v.build.length r.d],.agg #[s.kind,s.v.a,s.v.b,s.v.c,.slice s.A s.v.pre.length s.c,.slice s.B s.v.build.length s.d]] w fun e w'=>e=.returned (.int .i64 (stand r.cut s.cut))∧Below w.heap.size w w':=dropD (stand_anyD r s w h1 h2)


theorem counts_any (s:RSp) (w:World) (h:LiesS w s) :
  Calls Tryz.prog 85 #[.agg #[s.lo.kind,s.lo.v.a,s.lo.v.b,s.lo.v.c,.slice s.lo.A s.lo.v.pre.length s.lo.c,.slice s.lo.B s.lo.v.build.length s.lo.d,s.hi.kind,s.hi.v.a,s.hi.v.b,s.hi.v.c,.slice s.hi.A s.hi.v.pre.length s.hi.c,.slice s.hi.B s.hi.v.build.length s.hi.d]] w fun e w'=>e=.returned (.bool (cnt s.sp))∧Below w.heap.size w w':=by
 have HBa:Hid (Below w.heap.size w (w.alloc (s.lo,s.hi))):=(Below.refl _ _).alloc (Nat.le_refl _) _
 have HL:=Lib.hid (h.kept HBa.out)
 have K0:Hid (At12B (w.alloc (s.lo,s.hi)) w.heap.size s.lo.kind s.lo.v.a s.lo.v.b s.lo.v.c (.slice s.lo.A s.lo.v.pre.length s.lo.c) (.slice s.lo.B s.lo.v.build.length s.lo.d) s.hi.kind s.hi.v.a s.hi.v.b s.hi.v.c (.slice s.hi.A s.hi.v.pre.length s.hi.c) (.slice s.hi.B s.hi.v.build.length s.hi.d)):=At12B.new w _ _ _ _ _ _ _ _ _ _ _ _ _
 clear h
 have HF:Hid (cnt s.sp=(right s.lo.cut && (right s.hi.cut && decide (stand s.lo.cut s.hi.cut<0)))):=rfl
 go_enter Tryz.func85,Tryz.ntmps85
 go_upto_region 1 with (fail)
 generalize (w.alloc (s.lo,s.hi))=W at HBa HL K0 ⊢
 obtain ⟨hz,_,x0,x1,x2,x3,x4,x5,x6,x7,x8,x9,x10,x11⟩:=K0.out
 go_wp2_with fail
 refine (right_any s.lo _ HL.out.lo).mono ?_
 rintro e w1 ⟨rfl,hb1⟩
 have K1:=Lib.hid (K0.out.kept hb1 hz)
 have L1:=Lib.hid (HL.out.kept hb1)
 have B1:=Lib.hid (HBa.out.trans (hb1.mono HBa.out.size))
 clear hb1 hz x0 x1 x2 x3 x4 x5 x6 x7 x8 x9 x10 x11
 obtain ⟨hz1,_,x0,x1,x2,x3,x4,x5,x6,x7,x8,x9,x10,x11⟩:=K1.out
 generalize right s.lo.cut=g1 at HF ⊢
 cases g1
 ·go_wp2
  go_ret
  exact ⟨by rw [HF.out]; rfl,B1.out⟩
 go_wp2_with fail
 refine (right_any s.hi _ L1.out.hi).mono ?_
 rintro e w2 ⟨rfl,hb2⟩
 have K2:=Lib.hid (K1.out.kept hb2 hz1)
 have L2:=Lib.hid (L1.out.kept hb2)
 have B2:=Lib.hid (B1.out.trans (hb2.mono B1.out.size))
 clear hb2 hz1 x0 x1 x2 x3 x4 x5 x6 x7 x8 x9 x10 x11
 obtain ⟨hz2,_,x0,x1,x2,x3,x4,x5,x6,x7,x8,x9,x10,x11⟩:=K2.out
 generalize right s.hi.cut=g2 at HF ⊢
 cases g2
 ·go_wp2
  go_ret
  exact ⟨by rw [HF.out]; rfl,B2.out⟩
 go_wp2_with fail
 refine (stand_any s.lo s.hi _ L2.out.lo L2.out.hi).mono ?_
 rintro e w3 ⟨rfl,hb3⟩
 have B3:=Lib.hid (B2.out.trans (hb3.mono B2.out.size))
 clear hb3 hz2 x0 x1 x2 x3 x4 x5 x6 x7 x8 x9 x10 x11
 generalize stand s.lo.cut s.hi.cut=c at HF ⊢
 by_cases hc:c<0
 ·have HF2:Hid (cnt s.sp=true):=by have:=HF.out; unfold Hid; rw [this]; simp [hc]
  clear HF
  go_wp2
  go_ret
  exact ⟨by rw [HF2.out]; rfl,B3.out⟩
 ·have HF2:Hid (cnt s.sp=false):=by have:=HF.out; unfold Hid; rw [this]; simp; omega
  have hd:decide (c<0)=false:=by simpa using hc
  clear HF
  go_wp2
  go_ret
  exact ⟨by rw [HF2.out]; rfl,B3.out⟩

end Go.Proofs.YtgfbflnhjpbceaaGreatDoor.Span
namespace Go.Proofs.YtgfbflnhjpbceaaGreatDoor.Span
open Go.RowKit Num Ident Semver Prec

theorem vals_len (r:RCut):r.vals.length=6:=rfl
theorem svals_len (s:RSp):s.vals.length=12:=rfl
theorem evals_len (e:REdge):e.vals.length=7:=rfl

theorem edInfo:(Tryz.prog.info? 111).map (fun i=>(i.zero,i.size,i.bytes))=some (some (.agg #[.int .i64 0,.int .u64 0,.int .u64 0,.int .u64 0,.slice none 0 0,.slice none 0 0,.int .i64 0]),7,88):=by kernel_rfl
theorem wpList_append_ed (w:World) {ops:Array Oper} {rest:List Oper} {o:Oper} {a:Act} {Q:Exit→Act→World→Prop} (hgd:o.guard=none) (s x:Operand)
  (ho:o.op=.call { callee:=.builtin .append,args:=#[s,x],argTypes:=#[63,63] })
  (base:Nat) (v:Value) (n:Nat) (l:List REdge) (hs:a.eval s=v) (hown:w.ownsRow base 111 7 v n (l.flatMap REdge.vals))
  (ad:Addr) (m c:Nat) (r:List REdge) (hx:a.eval x=.slice (some ad) m c) (hr:r.length=m) (hnews:∀ j u,(r.flatMap REdge.vals)[j]?=some u→w.cell? (ad.add j)=some u) (hb:(n+m) * 88≤140737488355328) (hbase:base≤w.heap.size)
  (h:∀ v' w',w'.ownsRow base 111 7 v' (n+m) ((l ++ r).flatMap REdge.vals)→Below base w w'→wpList Tryz.prog ops Q rest (a.put o.dst v') w'):wpList Tryz.prog ops Q (o :: rest) a w:=by
 obtain ⟨i,hi,hz,hsz,hby⟩:=info_parts edInfo
 refine wpList_append_own w hgd s x 63 ho base 111 i _ 7 88 Tryz.underlying63 hi hz hsz hby rfl (by omega) v n _ hs hown ad m c _ hx (by rw [flat_len _ 7 evals_len,hr]) hnews (flat_one _ evals_one r) (by unfold maxLen; omega) hb hbase (fun v' w' h2 h3 _=>?_)
 refine h v' w' (by rw [List.flatMap_append]; exact h2) ((Below.refl base w).grown h3 hbase fun k hk=>(hown.lt k hk).1)

theorem spInfo:(Tryz.prog.info? 43).map (fun i=>(i.zero,i.size,i.bytes))=some (some (.agg #[.int .i64 0,.int .u64 0,.int .u64 0,.int .u64 0,.slice none 0 0,.slice none 0 0,.int .i64 0,.int .u64 0,.int .u64 0,.int .u64 0,.slice none 0 0,.slice none 0 0]),12,160):=by kernel_rfl
theorem wpList_append_sp (w:World) {ops:Array Oper} {rest:List Oper} {o:Oper} {a:Act} {Q:Exit→Act→World→Prop} (hgd:o.guard=none) (s x:Operand)
  (ho:o.op=.call { callee:=.builtin .append,args:=#[s,x],argTypes:=#[31,31] })
  (base:Nat) (v:Value) (n:Nat) (l:List RSp) (hs:a.eval s=v) (hown:w.ownsRow base 43 12 v n (l.flatMap RSp.vals))
  (ad:Addr) (m c:Nat) (r:List RSp) (hx:a.eval x=.slice (some ad) m c) (hr:r.length=m) (hnews:∀ j u,(r.flatMap RSp.vals)[j]?=some u→w.cell? (ad.add j)=some u) (hb:(n+m) * 160≤140737488355328) (hbase:base≤w.heap.size)
  (h:∀ v' w',w'.ownsRow base 43 12 v' (n+m) ((l ++ r).flatMap RSp.vals)→Below base w w'→wpList Tryz.prog ops Q rest (a.put o.dst v') w'):wpList Tryz.prog ops Q (o :: rest) a w:=by
 obtain ⟨i,hi,hz,hsz,hby⟩:=info_parts spInfo
 refine wpList_append_own w hgd s x 31 ho base 43 i _ 12 160 Tryz.underlying31 hi hz hsz hby rfl (by omega) v n _ hs hown ad m c _ hx (by rw [flat_len _ 12 svals_len,hr]) hnews (flat_one _ svals_one r) (by unfold maxLen; omega) hb hbase (fun v' w' h2 h3 _=>?_)
 refine h v' w' (by rw [List.flatMap_append]; exact h2) ((Below.refl base w).grown h3 hbase fun k hk=>(hown.lt k hk).1)

theorem run_append_sp (w:World) (ty:TypeId) (base:Nat) (v:Value) (n:Nat) (l:List RSp) (hown:w.ownsRow base 43 12 v n (l.flatMap RSp.vals)) (ad:Addr) (m c:Nat) (r:List RSp) (hr:r.length=m) (hnews:∀ j u,(r.flatMap RSp.vals)[j]?=some u→w.cell? (ad.add j)=some u) (hb:(n+m) * 160≤140737488355328) (hbase:base≤w.heap.size) :
  ∃ v' w',(Builtin.append_ #[31,31] ty #[v,.slice (some ad) m c]).run Tryz.prog w=.ok v' w'∧w'.ownsRow base 43 12 v' (n+m) ((l ++ r).flatMap RSp.vals)∧w.grownBy w' v.ownBlock:=by
 obtain ⟨i,hi,hz,hs,hby⟩:=info_parts spInfo
 obtain ⟨v',w',h3,h4,h5,_⟩:=run_append_own (P:=Tryz.prog) w base 31 ty 43 i _ 12 160 Tryz.underlying31 hi hz hs hby rfl (by omega) v n _ hown ad m c (r.flatMap RSp.vals)
  (by rw [flat_len _ 12 svals_len,hr]) hnews (flat_one _ svals_one r) (by unfold maxLen; omega) hb hbase
 exact ⟨v',w',h3,by rw [List.flatMap_append]; exact h4,h5⟩
end Go.Proofs.YtgfbflnhjpbceaaGreatDoor.Span
namespace Go.Proofs.YtgfbflnhjpbceaaGreatDoor.Span
open Go.RowKit Num Ident Semver Prec

def Zero (l r:List RSp) (n:Nat):Prop:=∀ i,i<n→cmpC (l.getD i default).lo.cut (r.getD i default).lo.cut=0∧cmpC (l.getD i default).hi.cut (r.getD i default).hi.cut=0
end Go.Proofs.YtgfbflnhjpbceaaGreatDoor.Span
namespace Go.Proofs.YtgfbflnhjpbceaaGreatDoor.Range
open Go.RowKit Num Ident Semver

def nums (l:List UInt8):List Int:=l.map fun b=>(b.toNat:Int)
theorem nums_len (l:List UInt8):(nums l).length=l.length:=by simp [nums]
theorem nums_back (l:List UInt8):Lib.bytesOf (nums l)=l:=by
 unfold Lib.bytesOf nums
 rw [List.map_map]
 have:((fun n:Int=>UInt8.ofNat n.toNat) ∘ fun b:UInt8=>(b.toNat:Int))=id:=by funext b; simp
 rw [this,List.map_id]
theorem bytes_in {w:World} {A:Option Addr} {n:Nat} {l:List UInt8} (h:Row w A n l):Lib.BytesIn w A n (nums l):=by
 intro h0
 obtain ⟨b,o,e,_,hc⟩:=h.2.2 h0
 refine ⟨b,o,e,fun i hi=>?_⟩
 rw [hc i hi]
 have hl:i<l.length:=by rw [h.1]; exact hi
 unfold byteAt nums
 simp [List.getD,List.getElem?_eq_getElem hl]
theorem has_any (A B:Option Addr) (n c m d:Nat) (l t:List UInt8) (w:World) (h:Row w A n l) (k:Row w B m t) (hc:n≤c) :
  Calls Tryz.prog 162 #[.slice A n c,.slice B m d] w fun e w'=>e=.returned (.bool (stands t l))∧w'=w:=by
 have:=Tryz.bytes_HasPrefix_all A B n c m d (nums l) (nums t) w (by rw [nums_len,h.1]) (by rw [nums_len,k.1]) hc (bytes_in h) (bytes_in k)
 rw [nums_back,nums_back] at this
 exact this
theorem index_mem (l:List UInt8) (c:UInt8):0≤Lib.indexByte l c↔c ∈ l:=by
 induction l with
 | nil=>simp [Lib.indexByte]
 | cons b l ih =>
  have hg:=Lib.indexByte_ge l c
  unfold Lib.indexByte
  by_cases hb:b=c
  ·subst hb; simp
  ·have h1:(b == c)=false:=beq_eq_false_iff_ne.2 hb
   rw [h1,if_neg (by simp),List.mem_cons]
   by_cases h2:Lib.indexByte l c=-1
   ·rw [h2] at ih ⊢
    simp only [beq_self_eq_true,if_true]
    constructor
    ·intro h; omega
    ·rintro (h | h)
     ·exact absurd h.symm hb
     ·have:=ih.2 h; omega
   ·have h3:(Lib.indexByte l c == -1)=false:=beq_eq_false_iff_ne.2 h2
    rw [h3,if_neg (by simp)]
    constructor
    ·intro h; exact .inr (ih.1 (by omega))
    ·intro h; omega
theorem stands_any (b:Nat) (A:Option Addr) (n c p:Nat) (l s t:List UInt8) (w:World) (hR:Rd w b A n c p) (hr:Row w A n l) (hc:n≤c) (hs:Pl l p s) (ht:t.length≤1000) :
  Calls Tryz.prog 144 #[.pointer (some ⟨b,0,none⟩),.string (mk t)] w fun e w'=>e=.returned (.bool (stands t s))∧Rd w' b A n c p∧Moved b w w':=by
 have hm:=hr.2.1
 unfold maxLen at hm
 have hp:p≤n:=by have:=hs.le; rw [hr.1] at this; exact this
 have hcp:n - p≤c - p:=by omega
 obtain ⟨R,hRR⟩:∃ R,(if c=p then A else A.map (fun x=>x.add p))=R:=⟨_,rfl⟩
 obtain ⟨c2,W1,hc2,hcv,hr2,hb2⟩:=run_bytes w.drew (mk t) (by rw [mk_size]; unfold maxLen; omega)
 have HK1:Hid (Rd W1 b A n c p):=hR.drew.kept hb2 hR.lt
 have HM1:Hid (Moved b w W1):=(Moved.refl b w).drew.below hb2 (Nat.le_refl _) hR.lt
 have HRR:Hid (Row W1 R (n - p) s):=by
  have:=Row.from_ hr p c hp hc hRR
  rw [hs.eq]
  exact row_keep this (hR.keep HM1.out)
 obtain ⟨A2,hA2⟩:∃ A2,some (⟨w.drew.heap.size,0,none⟩:Addr)=A2:=⟨_,rfl⟩
 rw [hA2] at hcv hr2
 have HRB:Hid (Row W1 A2 (mk t).size t):=hr2
 have HCV:=Lib.hid hcv
 obtain ⟨_,_,hx0,hx1,_⟩:=hR
 clear hr hs hr2 hcv hb2 hA2
 go_enter Tryz.func144,Tryz.ntmps144
 go_upto_region 1 with (fail)
 refine wp_region_held_drew (S:=fun w'=>w'.cell? ⟨b,0,none⟩=some (.slice A n c)∧w'.cell? ⟨b,1,none⟩=some (.int .i64 p)) (by kernel_rfl) ⟨hx0,hx1⟩ (fun hHeld=>?_)
 refine tk 0 rfl (.pointer (some ⟨b,0,none⟩)) ?_
 refine tk 1 rfl (.pointer (some ⟨b,0,none⟩)) ?_
 refine tk 2 rfl (.pointer (some ⟨b,0,none⟩)) ?_
 refine tk 3 rfl (.slice A n c) ?_ fun w' hS'=>by have x:=hS'.1; go_simp
 refine tk 4 rfl (.pointer (some ⟨b,0,none⟩)) ?_
 refine tk 5 rfl (.pointer (some ⟨b,0,none⟩)) ?_
 refine tk 6 rfl (.pointer (some ⟨b,1,none⟩)) ?_
 refine tk 7 rfl (.int .i64 p) ?_ fun w' hS'=>by have x:=hS'.2; go_simp
 refine tk 8 rfl (.slice R (n - p) (c - p)) ?_
 refine tk 9 rfl (.string (mk t)) ?_
 refine cl 10 rfl fun K hK=>?_
 go_simp
 rw [HCV.out]
 simp only [Result.andThen_ok]
 refine hK.out _ _ ⟨HK1.out.row,HK1.out.at_⟩ (fun hHeld=>?_)
 clear hK K
 try simp only [Act.put,p1,p2,p3]
 refine cl 11 rfl fun K hK=>?_
 go_simp
 refine (has_any R A2 _ _ _ _ _ _ _ HRR.out HRB.out hcp).mono ?_
 rintro e w2 ⟨rfl,rfl⟩
 clear hHeld
 refine hK.out _ _ ⟨HK1.out.row,HK1.out.at_⟩ (fun hHeld=>?_)
 clear hK K
 try simp only [Act.put,p1,p2,p3]
 refine tk 12 rfl (.bool (stands t s)) ?_
 refine wpAnyH_done (by kernel_rfl) ?_ _
 go_wp2
 go_ret
 exact ⟨rfl,HK1.out,HM1.out⟩
theorem oneOf_any (b:Nat) (A:Option Addr) (n c p:Nat) (l s t:List UInt8) (w:World) (hR:Rd w b A n c p) (hr:Row w A n l) (hs:Pl l p s) :
  Calls Tryz.prog 161 #[.pointer (some ⟨b,0,none⟩),.string (mk t)] w fun e w'=>e=.returned (.bool (oneOf t s))∧Rd w' b A n c p∧Moved b w w':=by
 have hm:=hr.2.1
 unfold maxLen at hm
 have HP:=Lib.hid hs
 have HL:=Lib.hid hr.1
 have HR:=Lib.hid hR
 have HRow:=Lib.hid hr
 obtain ⟨_,_,hx0,hx1,_⟩:=hR
 clear hr hs
 by_cases h1:p<n
 ·obtain ⟨g,o,rfl,hg,hcell⟩:=HRow.out.2.2 (by omega)
  have hx:=hcell p h1
  have HT:=Lib.hid (pl_next HP.out (by rw [HL.out]; exact h1))
  have HF:Hid (∀ (x:Int),byteAt l p=x→oneOf t s=decide (0≤Lib.indexByte t x.toNat.toUInt8)):=fun x hx=>by
   rw [HT.out,← hx]
   show decide (l.getD p 0 ∈ t)=_
   have e:(byteAt l p).toNat.toUInt8=l.getD p 0:=by unfold byteAt; simp
   rw [e,decide_eq_decide,index_mem]
  clear hcell
  obtain ⟨x,hxx⟩:∃ x,byteAt l p=x:=⟨_,rfl⟩
  have HF2:=Lib.hid (HF.out x hxx)
  rw [hxx] at hx
  clear hxx HF
  have hk1:(p:Int)<(n:Int):=by omega
  have HI:=Lib.hid (fun W=>Tryz.strings_IndexByte (mk t) x W)
  rw [mk_list] at HI
  generalize Lib.indexByte t x.toNat.toUInt8=y at HF2 HI
  rw [HF2.out]
  go_enter Tryz.func161,Tryz.ntmps161
  go_wp2_with fail
  go_quiet (first | (go_at_call 172; refine Calls.quiet_of_same (HI.out _)))
  go_wp2
  go_ret
  exact ⟨rfl,HR.out.drewN _,(Moved.refl b w).drewN _⟩
 ·have HF:Hid (oneOf t s=false):=by
   have e:s=[]:=by rw [HP.out.eq]; exact List.drop_eq_nil_of_le (by rw [HL.out]; omega)
   unfold Hid; rw [e]; rfl
  have hk1:decide ((p:Int)<(n:Int))=false:=by simp; omega
  rw [HF.out]
  go_enter Tryz.func161,Tryz.ntmps161
  go_wp2_with fail
  go_quiet (fail)
  go_wp2
  go_ret
  exact ⟨rfl,HR.out.drewN _,(Moved.refl b w).drewN _⟩
theorem lack_any (b:Nat) (A:Option Addr) (n c p:Nat) (l s:List UInt8) (w:World) (hR:Rd w b A n c p) (hr:Row w A n l) (hs:Pl l p s) :
  Calls Tryz.prog 170 #[.pointer (some ⟨b,0,none⟩)] w fun e w'=>e=.returned (.int .i64 (lackN s))∧Rd w' b A n c p∧Moved b w w':=by
 have hm:=hr.2.1
 unfold maxLen at hm
 have HP:=Lib.hid hs
 have HL:=Lib.hid hr.1
 have HR:=Lib.hid hR
 have hle:p≤n:=by have:=hs.le; rw [hr.1] at this; exact this
 obtain ⟨_,_,hx0,hx1,_⟩:=hR
 clear hr hs
 by_cases h1:p=n
 ·have HF:Hid (lackN s=5):=by
   have e:s=[]:=by rw [HP.out.eq]; exact List.drop_eq_nil_of_le (by rw [HL.out]; omega)
   unfold Hid; rw [e]; rfl
  have hk1:((p:Int) == (n:Int))=true:=by simp [h1]
  clear h1
  rw [HF.out]
  go_enter Tryz.func170,Tryz.ntmps170
  go_wp2_with fail
  go_quiet (fail)
  go_wp2
  go_ret
  exact ⟨rfl,HR.out.drewN _,(Moved.refl b w).drewN _⟩
 ·have HF:Hid (lackN s=3):=by
   have e:s≠[]:=by
    intro e
    have:=HP.out.len
    rw [e,HL.out,List.length_nil] at this
    omega
   unfold Hid lackN; rw [if_neg e]
  have hk1:((p:Int) == (n:Int))=false:=by simp; omega
  clear h1
  rw [HF.out]
  go_enter Tryz.func170,Tryz.ntmps170
  go_wp2_with fail
  go_quiet (fail)
  go_wp2
  go_ret
  exact ⟨rfl,HR.out.drewN _,(Moved.refl b w).drewN _⟩
end Go.Proofs.YtgfbflnhjpbceaaGreatDoor.Range
