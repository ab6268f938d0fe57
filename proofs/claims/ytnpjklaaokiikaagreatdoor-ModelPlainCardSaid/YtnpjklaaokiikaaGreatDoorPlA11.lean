/-
  What the theorem of the last text needs of these: SpCuts, SpOwn, SpCame, NmGood. Conditions: as each theorem states.
-/
import Derived.Test.YtnpjklaaokiikaaGreatDoorPlA1
import Derived.Test.YtnpjklaaokiikaaGreatDoorPlA2
import Derived.Test.YtnpjklaaokiikaaGreatDoorPlA4
import Derived.Test.YtnpjklaaokiikaaGreatDoorPlA7
import Derived.Test.YtnpjklaaokiikaaGreatDoorPlA9
import Derived.Test.YtnpjklaaokiikaaGreatDoorPlA10
import Derived.Deep.Slices
import Derived.Deep.Fields
import Derived.ChangeSame
set_option maxRecDepth 100000
set_option maxHeartbeats 25600000
namespace Go.Proofs.YtnpjklaaokiikaaGreatDoor.Span
open Go.RowKit Num Ident Semver Prec

theorem cmpI_any (x y:Int) (w:World) :
  Calls Tryz.prog 179 #[.int .i64 x,.int .i64 y] w fun e w'=>e=.returned (.int .i64 (ordI x y))∧w=w':=by
 rcases Int.lt_trichotomy x y with h | h | h
 ·have HF:=Lib.hid (ordI_lt h)
  go_enter Tryz.func179,Tryz.ntmps179
  go_wp2
  go_ret
  exact ⟨by rw [HF.out]; rfl,rfl⟩
 ·have HF:=Lib.hid (ordI_eq h)
  subst h
  go_enter Tryz.func179,Tryz.ntmps179
  go_wp2
  go_ret
  exact ⟨by rw [HF.out]; rfl,rfl⟩
 ·have HF:=Lib.hid (ordI_gt h)
  go_enter Tryz.func179,Tryz.ntmps179
  go_wp2
  go_ret
  exact ⟨by rw [HF.out]; rfl,rfl⟩
theorem same_none (v:Ver) (A:Option Addr) (c:Nat) (B:Option Addr) (d:Nat) (w:World) (r1:SRow w A v.pre.length v.pre) (r2:SRow w B v.build.length v.build) (h1:v.pre.length≤maxLen) (h2:v.build.length≤maxLen) :
  Calls Tryz.prog 132 #[.agg #[v.a,v.b,v.c,.slice A v.pre.length c,.slice B v.build.length d],.agg #[.int .u64 0,.int .u64 0,.int .u64 0,.slice none 0 0,.slice none 0 0]] w fun e w'=>e=.returned (.bool (sameV v noVer))∧Below w.heap.size w w' :=
 same_parts A v.pre.length c v.pre B v.build.length d v.build none 0 0 [] none 0 0 [] v.a v.b v.c 0 0 0 w r1 r2 (SRow.none_ _ _) (SRow.none_ _ _) h1 h2 (Nat.zero_le _) (Nat.zero_le _)

theorem right_any (r:RCut) (w:World) (h:Lies w r) :
  Calls Tryz.prog 178 #[.agg #[r.kind,r.v.a,r.v.b,r.v.c,.slice r.A r.v.pre.length r.c,.slice r.B r.v.build.length r.d]] w fun e w'=>e=.returned (.bool (right r.cut))∧Below w.heap.size w w':=by
 have HBa:Hid (Below w.heap.size w (w.alloc r)):=(Below.refl _ _).alloc (Nat.le_refl _) _
 have HL:=Lib.hid (h.kept HBa.out)
 have K0:Hid (At6B (w.alloc r) w.heap.size r.kind r.v.a r.v.b r.v.c (.slice r.A r.v.pre.length r.c) (.slice r.B r.v.build.length r.d)):=At6B.new w _ _ _ _ _ _ _
 clear h
 have HR:Hid (right r.cut=right ⟨r.kind,r.v⟩):=rfl
 by_cases h0:r.kind=0∨r.kind=3
 ·have HF:Hid (right r.cut=sameV r.v noVer):=right_ends h0
  have hs:(r.kind == 0)=true∨((r.kind == 0)=false∧(r.kind == 3)=true):=by
   rcases h0 with h0 | h0
   ·left; simp [h0]
   ·right; simp [h0]
  clear h0 HR
  rcases hs with e0 | ⟨e0,e3⟩
  all_goals
   go_enter Tryz.func178,Tryz.ntmps178
   go_upto_region 1 with (fail)
   generalize (w.alloc r)=W at HBa HL K0 ⊢
   obtain ⟨hz,_,x0,x1,x2,x3,x4,x5⟩:=K0.out
   go_wp2_with fail
   refine (same_none r.v r.A r.c r.B r.d _ HL.out.pre HL.out.build HL.out.fpre.1 HL.out.fbuild.1).mono ?_
   rintro e w1 ⟨rfl,hb1⟩
   have B1:=Lib.hid (HBa.out.trans (hb1.mono HBa.out.size))
   clear hb1 x0 x1 x2 x3 x4 x5
   go_wp2
   go_ret
   exact ⟨by rw [HF.out]; rfl,B1.out⟩
 have e0:(r.kind == 0)=false:=by simp; omega
 have e3:(r.kind == 3)=false:=by simp; omega
 by_cases h1:r.kind=1∨r.kind=2
 ·have HF:Hid (right r.cut=(goodV r.v && decide (r.v.build.length=0))):=right_ver h1
  have hs:(r.kind == 1)=true∨((r.kind == 1)=false∧(r.kind == 2)=true):=by
   rcases h1 with h1 | h1
   ·left; simp [h1]
   ·right; simp [h1]
  clear h0 h1 HR
  rcases hs with e1 | ⟨e1,e2⟩
  all_goals
   go_enter Tryz.func178,Tryz.ntmps178
   go_upto_region 1 with (fail)
   generalize (w.alloc r)=W at HBa HL K0 ⊢
   obtain ⟨hz,_,x0,x1,x2,x3,x4,x5⟩:=K0.out
   go_wp2_with fail
   refine (vgood_any r.v r.A r.c r.B r.d _ HL.out.pre HL.out.build HL.out.fpre.1 HL.out.fbuild.1 HL.out.fpre.2 HL.out.fbuild.2).mono ?_
   rintro e w1 ⟨rfl,hb1⟩
   have B1:=Lib.hid (HBa.out.trans (hb1.mono HBa.out.size))
   have K1:=Lib.hid (K0.out.kept hb1 hz)
   clear hb1 x0 x1 x2 x3 x4 x5 hz
   obtain ⟨hz,_,x0,x1,x2,x3,x4,x5⟩:=K1.out
   generalize goodV r.v=g at HF ⊢
   cases g
   ·go_wp2
    go_ret
    exact ⟨by rw [HF.out]; rfl,B1.out⟩
   ·by_cases hb:r.v.build.length=0
    ·have HF2:Hid (right r.cut=true):=by have:=HF.out; rw [this,decide_eq_true hb]; rfl
     have eb:((r.v.build.length:Int) == 0)=true:=by rw [beq_iff_eq]; omega
     clear HF hb
     go_wp2
     go_ret
     exact ⟨by rw [HF2.out]; rfl,B1.out⟩
    ·have HF2:Hid (right r.cut=false):=by have:=HF.out; rw [this,decide_eq_false hb]; rfl
     have eb:((r.v.build.length:Int) == 0)=false:=by rw [beq_eq_false_iff_ne]; omega
     clear HF hb
     go_wp2
     go_ret
     exact ⟨by rw [HF2.out]; rfl,B1.out⟩
 ·have HF:Hid (right r.cut=false):=right_none h0 h1
  have e1:(r.kind == 1)=false:=by simp; omega
  have e2:(r.kind == 2)=false:=by simp; omega
  clear h0 h1 HR
  go_enter Tryz.func178,Tryz.ntmps178
  go_upto_region 1 with (fail)
  generalize (w.alloc r)=W at HBa HL K0 ⊢
  obtain ⟨hz,_,x0,x1,x2,x3,x4,x5⟩:=K0.out
  go_wp2
  go_ret
  exact ⟨by rw [HF.out]; rfl,HBa.out⟩

theorem ofVer_any (r:RCut) (w:World) :
  Calls Tryz.prog 217 #[.agg #[r.kind,r.v.a,r.v.b,r.v.c,.slice r.A r.v.pre.length r.c,.slice r.B r.v.build.length r.d]] w fun e w'=>e=.returned (.bool (ofVer r.cut))∧BelowD w.heap.size w w':=by
 have HBa:Hid (BelowD w.heap.size w (w.alloc r)):=(BelowD.refl _ _).alloc (Nat.le_refl _) _
 have K0:Hid (At6B (w.alloc r) w.heap.size r.kind r.v.a r.v.b r.v.c (.slice r.A r.v.pre.length r.c) (.slice r.B r.v.build.length r.d)):=At6B.new w _ _ _ _ _ _ _
 by_cases h1:r.kind=1
 ·have HF:Hid (ofVer r.cut=true):=(ofVer_iff _).2 (.inl h1)
  have e1:(r.kind == 1)=true:=by simp [h1]
  clear h1
  go_enter Tryz.func217,Tryz.ntmps217
  go_upto_region 1 with (fail)
  generalize (w.alloc r)=W at HBa K0 ⊢
  obtain ⟨hz,_,x0,x1,x2,x3,x4,x5⟩:=K0.out
  go_wp2
  go_ret
  exact ⟨by rw [HF.out]; rfl,HBa.out⟩
 have e1:(r.kind == 1)=false:=by simp; omega
 by_cases h2:r.kind=2
 ·have HF:Hid (ofVer r.cut=true):=(ofVer_iff _).2 (.inr h2)
  have e2:(r.kind == 2)=true:=by simp [h2]
  clear h1 h2
  go_enter Tryz.func217,Tryz.ntmps217
  go_upto_region 1 with (fail)
  generalize (w.alloc r)=W at HBa K0 ⊢
  obtain ⟨hz,_,x0,x1,x2,x3,x4,x5⟩:=K0.out
  go_wp2
  go_ret
  exact ⟨by rw [HF.out]; rfl,HBa.out⟩
 ·have HF:Hid (ofVer r.cut=false):=(ofVer_no _).2 (by show ¬ (r.kind=1∨r.kind=2); omega)
  have e2:(r.kind == 2)=false:=by simp; omega
  clear h1 h2
  go_enter Tryz.func217,Tryz.ntmps217
  go_upto_region 1 with (fail)
  generalize (w.alloc r)=W at HBa K0 ⊢
  obtain ⟨hz,_,x0,x1,x2,x3,x4,x5⟩:=K0.out
  go_wp2
  go_ret
  exact ⟨by rw [HF.out]; rfl,HBa.out⟩

theorem stand_anyD (r s:RCut) (w:World) (h1:Lies w r) (h2:Lies w s) :
  Calls Tryz.prog 180 #[.agg #[r.kind,r.v.a,r.v.b,r.v.c,.slice r.A r.v.pre.length r.c,.slice r.B r.v.build.length r.d],.agg #[s.kind,s.v.a,s.v.b,s.v.c,.slice s.A s.v.pre.length s.c,.slice s.B s.v.build.length s.d]] w fun e w'=>e=.returned (.int .i64 (stand r.cut s.cut))∧BelowD w.heap.size w w':=by
 have HBa:Hid (BelowD w.heap.size w ((w.alloc r).alloc s)):=((BelowD.refl _ _).alloc (Nat.le_refl _) _).alloc (by simp) _
 have HL:=Lib.hid (h1.kept HBa.out.toBelow)
 have HM:=Lib.hid (h2.kept HBa.out.toBelow)
 have K0:Hid (At6B ((w.alloc r).alloc s) w.heap.size r.kind r.v.a r.v.b r.v.c (.slice r.A r.v.pre.length r.c) (.slice r.B r.v.build.length r.d)):=(At6B.new w _ _ _ _ _ _ _).kept ((Below.refl _ _).alloc (Nat.le_refl _) _) (by simp)
 have J0:Hid (At6B ((w.alloc r).alloc s) (w.heap.size+1) s.kind s.v.a s.v.b s.v.c (.slice s.A s.v.pre.length s.c) (.slice s.B s.v.build.length s.d)):=by
  have:=At6B.new (w.alloc r) 187 s.kind s.v.a s.v.b s.v.c (.slice s.A s.v.pre.length s.c) (.slice s.B s.v.build.length s.d)
  rw [size_alloc] at this; exact this
 clear h1 h2
 have HF:Hid (stand r.cut s.cut=if ofVer r.cut=true∧ofVer s.cut=true∧cmpV r.v s.v≠0 then cmpV r.v s.v else ordI r.kind s.kind):=rfl
 go_enter Tryz.func180,Tryz.ntmps180
 go_upto_region 1 with (fail)
 generalize ((w.alloc r).alloc s)=W at HBa HL HM K0 J0 ⊢
 obtain ⟨hz,_,x0,x1,x2,x3,x4,x5⟩:=K0.out
 obtain ⟨hy,_,y0,y1,y2,y3,y4,y5⟩:=J0.out
 go_wp2_with fail
 refine (ofVer_any r _).mono ?_
 rintro e w1 ⟨rfl,hb1⟩
 have K1:=Lib.hid (K0.out.kept hb1.toBelow hz)
 have J1:=Lib.hid (J0.out.kept hb1.toBelow hy)
 have L1:=Lib.hid (HL.out.kept hb1.toBelow)
 have M1:=Lib.hid (HM.out.kept hb1.toBelow)
 have B1:=Lib.hid (HBa.out.trans (hb1.mono HBa.out.size))
 clear hb1 hz hy
 clear x0 x1 x2 x3 x4 x5 y0 y1 y2 y3 y4 y5
 obtain ⟨hz1,_,x0,x1,x2,x3,x4,x5⟩:=K1.out
 obtain ⟨hy1,_,y0,y1,y2,y3,y4,y5⟩:=J1.out
 generalize ofVer r.cut=g1 at HF ⊢
 cases g1
 ·have HF2:Hid (stand r.cut s.cut=ordI r.kind s.kind):=by have:=HF.out; rw [if_neg (by rintro ⟨h,_⟩; cases h)] at this; exact this
  clear HF
  go_wp2_with fail
  refine (cmpI_any _ _ _).mono ?_
  rintro e w' ⟨rfl,rfl⟩
  go_wp2
  go_ret
  exact ⟨by rw [HF2.out]; rfl,B1.out⟩
 go_wp2_with fail
 refine (ofVer_any s _).mono ?_
 rintro e w2 ⟨rfl,hb2⟩
 have K2:=Lib.hid (K1.out.kept hb2.toBelow hz1)
 have J2:=Lib.hid (J1.out.kept hb2.toBelow hy1)
 have L2:=Lib.hid (L1.out.kept hb2.toBelow)
 have M2:=Lib.hid (M1.out.kept hb2.toBelow)
 have B2:=Lib.hid (B1.out.trans (hb2.mono B1.out.size))
 clear hb2 hz1 hy1
 clear x0 x1 x2 x3 x4 x5 y0 y1 y2 y3 y4 y5
 obtain ⟨hz2,_,x0,x1,x2,x3,x4,x5⟩:=K2.out
 obtain ⟨hy2,_,y0,y1,y2,y3,y4,y5⟩:=J2.out
 generalize ofVer s.cut=g2 at HF ⊢
 cases g2
 ·have HF2:Hid (stand r.cut s.cut=ordI r.kind s.kind):=by have:=HF.out; rw [if_neg (by rintro ⟨_,h,_⟩; cases h)] at this; exact this
  clear HF
  go_wp2_with fail
  refine (cmpI_any _ _ _).mono ?_
  rintro e w' ⟨rfl,rfl⟩
  go_wp2
  go_ret
  exact ⟨by rw [HF2.out]; rfl,B2.out⟩
 go_wp2_with fail
 refine (Prec.compare_anyD r.v s.v r.A r.B s.A s.B r.c r.d s.c s.d _ L2.out.pre M2.out.pre L2.out.fpre M2.out.fpre).mono ?_
 rintro e w3 ⟨rfl,hb3⟩
 have K3:=Lib.hid (K2.out.kept hb3.toBelow hz2)
 have J3:=Lib.hid (J2.out.kept hb3.toBelow hy2)
 have B3:=Lib.hid (B2.out.trans (hb3.mono B2.out.size))
 clear hb3 hz2 hy2
 clear x0 x1 x2 x3 x4 x5 y0 y1 y2 y3 y4 y5
 obtain ⟨hz3,_,x0,x1,x2,x3,x4,x5⟩:=K3.out
 obtain ⟨hy3,_,y0,y1,y2,y3,y4,y5⟩:=J3.out
 generalize cmpV r.v s.v=c at HF ⊢
 by_cases hc:c=0
 ·have HF2:Hid (stand r.cut s.cut=ordI r.kind s.kind):=by have:=HF.out; rw [if_neg (fun h=>h.2.2 hc)] at this; exact this
  subst hc
  clear HF
  go_wp2_with fail
  refine (cmpI_any _ _ _).mono ?_
  rintro e w' ⟨rfl,rfl⟩
  go_wp2
  go_ret
  exact ⟨by rw [HF2.out]; rfl,B3.out⟩
 ·have HF2:Hid (stand r.cut s.cut=c):=by have:=HF.out; rw [if_pos (by simp [hc])] at this; exact this
  have hn:(c == 0)=false:=by simp [hc]
  have hn2:(c != 0)=true:=by simp [hc]
  clear HF hc
  go_wp2
  go_ret
  exact ⟨by rw [HF2.out]; rfl,B3.out⟩
theorem stand_any (r s:RCut) (w:World) (h1:Lies w r) (h2:Lies w s) :
  Calls Tryz.prog 180 #[.agg #[r.kind,r.v.a,r.v.b,r.v.c,.slice r.A r.v.pre.length r.c,.slice r.B r.v.build.length r.d],.agg #[s.kind,s.v.a,s.v.b,s.v.c,.slice s.A s.v.pre.length s.c,.slice s.B s.v.build.length s.d]] w fun e w'=>e=.returned (.int .i64 (stand r.cut s.cut))∧Below w.heap.size w w':=dropD (stand_anyD r s w h1 h2)

theorem compareC_any (r s:RCut) (w:World) (h1:Lies w r) (h2:Lies w s) :
  Calls Tryz.prog 128 #[.agg #[r.kind,r.v.a,r.v.b,r.v.c,.slice r.A r.v.pre.length r.c,.slice r.B r.v.build.length r.d],.agg #[s.kind,s.v.a,s.v.b,s.v.c,.slice s.A s.v.pre.length s.c,.slice s.B s.v.build.length s.d]] w fun e w'=>e=.returned (.int .i64 (cmpC r.cut s.cut))∧Below w.heap.size w w':=by
 have HBa:Hid (Below w.heap.size w ((w.alloc r).alloc s)):=((Below.refl _ _).alloc (Nat.le_refl _) _).alloc (by simp) _
 have HL:=Lib.hid (h1.kept HBa.out)
 have HM:=Lib.hid (h2.kept HBa.out)
 have K0:Hid (At6B ((w.alloc r).alloc s) w.heap.size r.kind r.v.a r.v.b r.v.c (.slice r.A r.v.pre.length r.c) (.slice r.B r.v.build.length r.d)):=(At6B.new w _ _ _ _ _ _ _).kept ((Below.refl _ _).alloc (Nat.le_refl _) _) (by simp)
 have J0:Hid (At6B ((w.alloc r).alloc s) (w.heap.size+1) s.kind s.v.a s.v.b s.v.c (.slice s.A s.v.pre.length s.c) (.slice s.B s.v.build.length s.d)):=by
  have:=At6B.new (w.alloc r) 187 s.kind s.v.a s.v.b s.v.c (.slice s.A s.v.pre.length s.c) (.slice s.B s.v.build.length s.d)
  rw [size_alloc] at this; exact this
 clear h1 h2
 have HF:Hid (cmpC r.cut s.cut=if right r.cut=true∧right s.cut=true then stand r.cut s.cut else ordI r.kind s.kind):=rfl
 go_enter Tryz.func128,Tryz.ntmps128
 go_upto_region 1 with (fail)
 generalize ((w.alloc r).alloc s)=W at HBa HL HM K0 J0 ⊢
 obtain ⟨hz,_,x0,x1,x2,x3,x4,x5⟩:=K0.out
 obtain ⟨hy,_,y0,y1,y2,y3,y4,y5⟩:=J0.out
 go_wp2_with fail
 refine (right_any r _ HL.out).mono ?_
 rintro e w1 ⟨rfl,hb1⟩
 have K1:=Lib.hid (K0.out.kept hb1 hz)
 have J1:=Lib.hid (J0.out.kept hb1 hy)
 have L1:=Lib.hid (HL.out.kept hb1)
 have M1:=Lib.hid (HM.out.kept hb1)
 have B1:=Lib.hid (HBa.out.trans (hb1.mono HBa.out.size))
 clear hb1 hz hy
 clear x0 x1 x2 x3 x4 x5 y0 y1 y2 y3 y4 y5
 obtain ⟨hz1,_,x0,x1,x2,x3,x4,x5⟩:=K1.out
 obtain ⟨hy1,_,y0,y1,y2,y3,y4,y5⟩:=J1.out
 generalize right r.cut=g1 at HF ⊢
 cases g1
 ·have HF2:Hid (cmpC r.cut s.cut=ordI r.kind s.kind):=by have:=HF.out; rw [if_neg (by rintro ⟨h,_⟩; cases h)] at this; exact this
  clear HF
  go_wp2_with fail
  refine (cmpI_any _ _ _).mono ?_
  rintro e w' ⟨rfl,rfl⟩
  go_wp2
  go_ret
  exact ⟨by rw [HF2.out]; rfl,B1.out⟩
 go_wp2_with fail
 refine (right_any s _ M1.out).mono ?_
 rintro e w2 ⟨rfl,hb2⟩
 have K2:=Lib.hid (K1.out.kept hb2 hz1)
 have J2:=Lib.hid (J1.out.kept hb2 hy1)
 have L2:=Lib.hid (L1.out.kept hb2)
 have M2:=Lib.hid (M1.out.kept hb2)
 have B2:=Lib.hid (B1.out.trans (hb2.mono B1.out.size))
 clear hb2 hz1 hy1
 clear x0 x1 x2 x3 x4 x5 y0 y1 y2 y3 y4 y5
 obtain ⟨hz2,_,x0,x1,x2,x3,x4,x5⟩:=K2.out
 obtain ⟨hy2,_,y0,y1,y2,y3,y4,y5⟩:=J2.out
 generalize right s.cut=g2 at HF ⊢
 cases g2
 ·have HF2:Hid (cmpC r.cut s.cut=ordI r.kind s.kind):=by have:=HF.out; rw [if_neg (by rintro ⟨_,h⟩; cases h)] at this; exact this
  clear HF
  go_wp2_with fail
  refine (cmpI_any _ _ _).mono ?_
  rintro e w' ⟨rfl,rfl⟩
  go_wp2
  go_ret
  exact ⟨by rw [HF2.out]; rfl,B2.out⟩
 have HF2:Hid (cmpC r.cut s.cut=stand r.cut s.cut):=by have:=HF.out; rw [if_pos (by simp)] at this; exact this
 clear HF
 go_wp2_with fail
 refine (stand_any r s _ L2.out M2.out).mono ?_
 rintro e w3 ⟨rfl,hb3⟩
 have B3:=Lib.hid (B2.out.trans (hb3.mono B2.out.size))
 clear hb3 hz2 hy2
 clear x0 x1 x2 x3 x4 x5 y0 y1 y2 y3 y4 y5
 go_wp2
 go_ret
 exact ⟨by rw [HF2.out]; rfl,B3.out⟩

theorem counts_any (s:RSp) (w:World) (h:LiesS w s) :
  Calls Tryz.prog 250 #[.agg #[s.lo.kind,s.lo.v.a,s.lo.v.b,s.lo.v.c,.slice s.lo.A s.lo.v.pre.length s.lo.c,.slice s.lo.B s.lo.v.build.length s.lo.d,s.hi.kind,s.hi.v.a,s.hi.v.b,s.hi.v.c,.slice s.hi.A s.hi.v.pre.length s.hi.c,.slice s.hi.B s.hi.v.build.length s.hi.d]] w fun e w'=>e=.returned (.bool (cnt s.sp))∧Below w.heap.size w w':=by
 have HBa:Hid (Below w.heap.size w (w.alloc (s.lo,s.hi))):=(Below.refl _ _).alloc (Nat.le_refl _) _
 have HL:=Lib.hid (h.kept HBa.out)
 have K0:Hid (At12B (w.alloc (s.lo,s.hi)) w.heap.size s.lo.kind s.lo.v.a s.lo.v.b s.lo.v.c (.slice s.lo.A s.lo.v.pre.length s.lo.c) (.slice s.lo.B s.lo.v.build.length s.lo.d) s.hi.kind s.hi.v.a s.hi.v.b s.hi.v.c (.slice s.hi.A s.hi.v.pre.length s.hi.c) (.slice s.hi.B s.hi.v.build.length s.hi.d)):=At12B.new w _ _ _ _ _ _ _ _ _ _ _ _ _
 clear h
 have HF:Hid (cnt s.sp=(right s.lo.cut && (right s.hi.cut && decide (stand s.lo.cut s.hi.cut<0)))):=rfl
 go_enter Tryz.func250,Tryz.ntmps250
 go_upto_region 1 with (fail)
 generalize (w.alloc (s.lo,s.hi))=W at HBa HL K0 ⊢
 obtain ⟨hz,_,x0,x1,x2,x3,x4,x5,x6,x7,x8,x9,x10,x11⟩:=K0.out
 go_wp2_with fail
 refine (right_any s.lo _ HL.out.lo).mono ?_
 rintro e w1 ⟨rfl,hb1⟩
 have K1:=Lib.hid (K0.out.kept hb1 hz)
 have L1:=Lib.hid (HL.out.kept hb1)
 have B1:=Lib.hid (HBa.out.trans (hb1.mono HBa.out.size))
 clear hb1 hz x0 x1 x2 x3 x4 x5 x6 x7 x8 x9 x10 x11
 obtain ⟨hz1,_,x0,x1,x2,x3,x4,x5,x6,x7,x8,x9,x10,x11⟩:=K1.out
 generalize right s.lo.cut=g1 at HF ⊢
 cases g1
 ·go_wp2
  go_ret
  exact ⟨by rw [HF.out]; rfl,B1.out⟩
 go_wp2_with fail
 refine (right_any s.hi _ L1.out.hi).mono ?_
 rintro e w2 ⟨rfl,hb2⟩
 have K2:=Lib.hid (K1.out.kept hb2 hz1)
 have L2:=Lib.hid (L1.out.kept hb2)
 have B2:=Lib.hid (B1.out.trans (hb2.mono B1.out.size))
 clear hb2 hz1 x0 x1 x2 x3 x4 x5 x6 x7 x8 x9 x10 x11
 obtain ⟨hz2,_,x0,x1,x2,x3,x4,x5,x6,x7,x8,x9,x10,x11⟩:=K2.out
 generalize right s.hi.cut=g2 at HF ⊢
 cases g2
 ·go_wp2
  go_ret
  exact ⟨by rw [HF.out]; rfl,B2.out⟩
 go_wp2_with fail
 refine (stand_any s.lo s.hi _ L2.out.lo L2.out.hi).mono ?_
 rintro e w3 ⟨rfl,hb3⟩
 have B3:=Lib.hid (B2.out.trans (hb3.mono B2.out.size))
 clear hb3 hz2 x0 x1 x2 x3 x4 x5 x6 x7 x8 x9 x10 x11
 generalize stand s.lo.cut s.hi.cut=c at HF ⊢
 by_cases hc:c<0
 ·have HF2:Hid (cnt s.sp=true):=by have:=HF.out; unfold Hid; rw [this]; simp [hc]
  clear HF
  go_wp2
  go_ret
  exact ⟨by rw [HF2.out]; rfl,B3.out⟩
 ·have HF2:Hid (cnt s.sp=false):=by have:=HF.out; unfold Hid; rw [this]; simp; omega
  have hd:decide (c<0)=false:=by simpa using hc
  clear HF
  go_wp2
  go_ret
  exact ⟨by rw [HF2.out]; rfl,B3.out⟩

end Go.Proofs.YtnpjklaaokiikaaGreatDoor.Span
namespace Go.Proofs.YtnpjklaaokiikaaGreatDoor.Span
open Go.RowKit Num Ident Semver Prec

theorem svals_len (s:RSp):s.vals.length=12:=rfl
theorem evals_len (e:REdge):e.vals.length=7:=rfl

theorem edInfo:(Tryz.prog.info? 268).map (fun i=>(i.zero,i.size,i.bytes))=some (some (.agg #[.int .i64 0,.int .u64 0,.int .u64 0,.int .u64 0,.slice none 0 0,.slice none 0 0,.int .i64 0]),7,88):=by kernel_rfl
theorem wpList_append_ed (w:World) {ops:Array Oper} {rest:List Oper} {o:Oper} {a:Act} {Q:Exit→Act→World→Prop} (hgd:o.guard=none) (s x:Operand)
  (ho:o.op=.call { callee:=.builtin .append,args:=#[s,x],argTypes:=#[265,265] })
  (base:Nat) (v:Value) (n:Nat) (l:List REdge) (hs:a.eval s=v) (hown:w.ownsRow base 268 7 v n (l.flatMap REdge.vals))
  (ad:Addr) (m c:Nat) (r:List REdge) (hx:a.eval x=.slice (some ad) m c) (hr:r.length=m) (hnews:∀ j u,(r.flatMap REdge.vals)[j]?=some u→w.cell? (ad.add j)=some u) (hb:(n+m) * 88≤140737488355328) (hbase:base≤w.heap.size)
  (h:∀ v' w',w'.ownsRow base 268 7 v' (n+m) ((l ++ r).flatMap REdge.vals)→Below base w w'→wpList Tryz.prog ops Q rest (a.put o.dst v') w'):wpList Tryz.prog ops Q (o :: rest) a w:=by
 obtain ⟨i,hi,hz,hsz,hby⟩:=info_parts edInfo
 refine wpList_append_own w hgd s x 265 ho base 268 i _ 7 88 Tryz.underlying265 hi hz hsz hby rfl (by omega) v n _ hs hown ad m c _ hx (by rw [flat_len _ 7 evals_len,hr]) hnews (flat_one _ evals_one r) (by unfold maxLen; omega) hb hbase (fun v' w' h2 h3 _=>?_)
 refine h v' w' (by rw [List.flatMap_append]; exact h2) ((Below.refl base w).grown h3 hbase fun k hk=>(hown.lt k hk).1)

theorem spInfo:(Tryz.prog.info? 190).map (fun i=>(i.zero,i.size,i.bytes))=some (some (.agg #[.int .i64 0,.int .u64 0,.int .u64 0,.int .u64 0,.slice none 0 0,.slice none 0 0,.int .i64 0,.int .u64 0,.int .u64 0,.int .u64 0,.slice none 0 0,.slice none 0 0]),12,160):=by kernel_rfl
theorem wpList_append_sp (w:World) {ops:Array Oper} {rest:List Oper} {o:Oper} {a:Act} {Q:Exit→Act→World→Prop} (hgd:o.guard=none) (s x:Operand)
  (ho:o.op=.call { callee:=.builtin .append,args:=#[s,x],argTypes:=#[122,122] })
  (base:Nat) (v:Value) (n:Nat) (l:List RSp) (hs:a.eval s=v) (hown:w.ownsRow base 190 12 v n (l.flatMap RSp.vals))
  (ad:Addr) (m c:Nat) (r:List RSp) (hx:a.eval x=.slice (some ad) m c) (hr:r.length=m) (hnews:∀ j u,(r.flatMap RSp.vals)[j]?=some u→w.cell? (ad.add j)=some u) (hb:(n+m) * 160≤140737488355328) (hbase:base≤w.heap.size)
  (h:∀ v' w',w'.ownsRow base 190 12 v' (n+m) ((l ++ r).flatMap RSp.vals)→Below base w w'→wpList Tryz.prog ops Q rest (a.put o.dst v') w'):wpList Tryz.prog ops Q (o :: rest) a w:=by
 obtain ⟨i,hi,hz,hsz,hby⟩:=info_parts spInfo
 refine wpList_append_own w hgd s x 122 ho base 190 i _ 12 160 Tryz.underlying122 hi hz hsz hby rfl (by omega) v n _ hs hown ad m c _ hx (by rw [flat_len _ 12 svals_len,hr]) hnews (flat_one _ svals_one r) (by unfold maxLen; omega) hb hbase (fun v' w' h2 h3 _=>?_)
 refine h v' w' (by rw [List.flatMap_append]; exact h2) ((Below.refl base w).grown h3 hbase fun k hk=>(hown.lt k hk).1)

theorem run_append_sp (w:World) (ty:TypeId) (base:Nat) (v:Value) (n:Nat) (l:List RSp) (hown:w.ownsRow base 190 12 v n (l.flatMap RSp.vals)) (ad:Addr) (m c:Nat) (r:List RSp) (hr:r.length=m) (hnews:∀ j u,(r.flatMap RSp.vals)[j]?=some u→w.cell? (ad.add j)=some u) (hb:(n+m) * 160≤140737488355328) (hbase:base≤w.heap.size) :
  ∃ v' w',(Builtin.append_ #[122,122] ty #[v,.slice (some ad) m c]).run Tryz.prog w=.ok v' w'∧w'.ownsRow base 190 12 v' (n+m) ((l ++ r).flatMap RSp.vals)∧w.grownBy w' v.ownBlock:=by
 obtain ⟨i,hi,hz,hs,hby⟩:=info_parts spInfo
 obtain ⟨v',w',h3,h4,h5,_⟩:=run_append_own (P:=Tryz.prog) w base 122 ty 190 i _ 12 160 Tryz.underlying122 hi hz hs hby rfl (by omega) v n _ hown ad m c (r.flatMap RSp.vals)
  (by rw [flat_len _ 12 svals_len,hr]) hnews (flat_one _ svals_one r) (by unfold maxLen; omega) hb hbase
 exact ⟨v',w',h3,by rw [List.flatMap_append]; exact h4,h5⟩
end Go.Proofs.YtnpjklaaokiikaaGreatDoor.Span
namespace Go.Proofs.YtnpjklaaokiikaaGreatDoor.Came
open Go.ChangeShapes Go.WideShapes Go.RowKit Go.Deep

theorem kind_read {H:Type} {enc:TypeId × Value→H} {W:World} {n:Nat} {z:Value} {y:DataW H × List MemPlace} (h:DataW.trod enc Tryz.prog W 0 (fun _=>true) true n 3 [z]=some y):∃ k:Int,z=.int .i64 k:=by
 obtain ⟨m,hm,_,_⟩:=DataW.trod_int Tryz.underlying3 h
 simp at hm
 exact ⟨m,hm⟩
theorem list_of {α:Type} [Inhabited α] {P:Nat→α→Prop}:∀ (n:Nat),(∀ i,i<n→∃ x,P i x)→∃ l:List α,l.length=n∧∀ i,i<n→P i (l.getD i default)
 | 0,_=>⟨[],rfl,fun i hi=>by omega⟩
 | n+1,h=>by
  obtain ⟨l,hl,hp⟩:=list_of n fun i hi=>h i (by omega)
  obtain ⟨x,hx⟩:=h n (by omega)
  refine ⟨l ++ [x],by simp [hl],fun i hi=>?_⟩
  rcases Nat.lt_or_ge i n with h1 | h1
  ·have e:(l ++ [x]).getD i default=l.getD i default:=by simp [List.getD,List.getElem?_append_left (show i<l.length by omega)]
   rw [e]; exact hp i h1
  ·obtain rfl:i=n:=by omega
   have e:(l ++ [x]).getD i default=x:=by simp [List.getD,← hl]
   rw [e]; exact hx
end Go.Proofs.YtnpjklaaokiikaaGreatDoor.Came
namespace Go.Proofs.YtnpjklaaokiikaaGreatDoor.Range
open Go.RowKit Num Ident Semver
theorem fits_ver {k:Int} {v:Ver} {n:Nat} (h:ofVersion k=true):fits k v n=(goodV v && decide (n=0)):=by unfold fits; rw [if_pos h]
theorem fits_un {k:Int} {v:Ver} {n:Nat} (h:ofVersion k=false) (h2:sameV v noVer=false):fits k v n=false:=by unfold fits; rw [if_neg (by simp [h]),if_pos h2]
theorem fits_zero {k:Int} {v:Ver} {n:Nat} (h:ofVersion k=false) (h2:sameV v noVer=true):fits k v n=if k=0 then decide (n=0) else if k=9∨k=10 then decide (2≤n) else if k=11 then decide (n=1) else false:=by
 unfold fits; rw [if_neg (by simp [h]),if_neg (by simp [h2])]
theorem fits_full (x:RV) (w:World) (hr1:SRow w x.A x.v.pre.length x.v.pre) (hr2:SRow w x.B x.v.build.length x.v.build) (hf:FitV x.v) :
  Calls Tryz.prog 218 #[x.agg] w fun e w'=>e=.returned (.bool (fits x.kind x.v x.n))∧Below w.heap.size w w':=by
 have HB:Hid (Below w.heap.size w (w.alloc x)):=(Below.refl _ _).alloc (Nat.le_refl _) _
 have HRA:Hid (RAt (w.alloc x) w.heap.size x):=RAt.new w _ x
 have HR1:=Lib.hid (hr1.kept HB.out)
 have HR2:=Lib.hid (hr2.kept HB.out)
 have HF:=Lib.hid hf
 clear hr1 hr2 hf
 unfold RV.agg
 generalize hR:fits x.kind x.v x.n=R
 have HR:=Lib.hid hR
 clear hR
 go_enter Tryz.func218,Tryz.ntmps218
 go_upto_region 1 with (fail)
 generalize w.alloc x=W at HB HRA HR1 HR2 ⊢
 obtain ⟨y1,y2,c0,c1,c2,c3,c4,c5,c6⟩:=HRA.out
 cases hov:ofVersion x.kind with
 | true =>
  have HOV:=Lib.hid hov
  have HE:Hid (R=(goodV x.v && decide (x.n=0))):=by unfold Hid; rw [← HR.out]; exact fits_ver hov
  clear hov HR
  go_wp2_with fail
  refine (ofVersion_any x.kind W).mono ?_
  rintro e w' ⟨rfl,rfl⟩
  rw [HOV.out]
  go_wp2_with fail
  refine (vgood_any x.v x.A x.c x.B x.d w' HR1.out HR2.out HF.out.pre HF.out.build HF.out.pres HF.out.builds).mono ?_
  rintro e W2 ⟨rfl,hb⟩
  have HB2:=Lib.hid (HB.out.trans (hb.mono HB.out.size))
  have HRA2:=Lib.hid (HRA.out.kept hb HRA.out.1)
  clear hb y1 y2 c0 c1 c2 c3 c4 c5 c6
  obtain ⟨y1,y2,c0,c1,c2,c3,c4,c5,c6⟩:=HRA2.out
  cases hgv:goodV x.v with
  | true =>
   by_cases hn:x.n=0
   ·obtain rfl:R=true:=by rw [HE.out,hgv,hn]; rfl
    rw [hn] at c6
    clear HE hgv hn
    go_wp2; go_ret
    exact ⟨rfl,HB2.out⟩
   ·obtain rfl:R=false:=by rw [HE.out,decide_eq_false hn,Bool.and_false]
    have q0:((x.n:Int) == 0)=false:=beq_eq_false_iff_ne.2 (by omega)
    clear hn HE hgv
    go_wp2; go_ret
    exact ⟨rfl,HB2.out⟩
  | false =>
   obtain rfl:R=false:=by rw [HE.out,hgv]; rfl
   clear HE hgv
   go_wp2; go_ret
   exact ⟨rfl,HB2.out⟩
 | false =>
  have HOV:=Lib.hid hov
  have HE1:Hid (sameV x.v noVer=false→R=false):=fun h=>by rw [← HR.out]; exact fits_un hov h
  have HE2:Hid (sameV x.v noVer=true→R=if x.kind=0 then decide (x.n=0) else if x.kind=9∨x.kind=10 then decide (2≤x.n) else if x.kind=11 then decide (x.n=1) else false):=fun h=>by rw [← HR.out]; exact fits_zero hov h
  clear hov HR
  go_wp2_with fail
  refine (ofVersion_any x.kind W).mono ?_
  rintro e w' ⟨rfl,rfl⟩
  rw [HOV.out]
  go_wp2_with fail
  refine (same_parts x.A x.v.pre.length x.c x.v.pre x.B x.v.build.length x.d x.v.build none 0 0 [] none 0 0 [] x.v.a x.v.b x.v.c 0 0 0 w' HR1.out HR2.out (srow_none _ _) (srow_none _ _) HF.out.pre HF.out.build (Nat.zero_le _) (Nat.zero_le _)).mono ?_
  rintro e W2 ⟨rfl,hb⟩
  have HB2:=Lib.hid (HB.out.trans (hb.mono HB.out.size))
  have HRA2:=Lib.hid (HRA.out.kept hb HRA.out.1)
  clear hb y1 y2 c0 c1 c2 c3 c4 c5 c6
  obtain ⟨y1,y2,c0,c1,c2,c3,c4,c5,c6⟩:=HRA2.out
  have HS:Hid (sameV ⟨x.v.a,x.v.b,x.v.c,x.v.pre,x.v.build⟩ ⟨0,0,0,[],[]⟩=sameV x.v noVer):=rfl
  rw [HS.out]
  cases hsv:sameV x.v noVer with
  | false =>
   obtain rfl:=HE1.out hsv
   clear hsv HE1 HE2
   go_wp2; go_ret
   exact ⟨rfl,HB2.out⟩
  | true =>
   have hE:=HE2.out hsv
   clear hsv HE1 HE2 HOV HS
   by_cases k0:x.kind=0
   ·rw [if_pos k0] at hE
    rw [k0] at c0
    clear k0
    by_cases hn:x.n=0
    ·obtain rfl:R=true:=by rw [hE,decide_eq_true hn]
     rw [hn] at c6
     clear hE hn
     go_wp2; go_ret
     exact ⟨rfl,HB2.out⟩
    ·have q0:((x.n:Int) == 0)=false:=beq_eq_false_iff_ne.2 (by omega)
     obtain rfl:R=false:=by rw [hE,decide_eq_false hn]
     clear hn hE
     go_wp2; go_ret
     exact ⟨rfl,HB2.out⟩
   ·rw [if_neg k0] at hE
    by_cases k9:x.kind=9∨x.kind=10
    ·rw [if_pos k9] at hE
     by_cases hn:2≤x.n
     ·have hn2:(2:Int)≤(x.n:Int):=by omega
      obtain rfl:R=true:=by rw [hE,decide_eq_true hn]
      clear hn k0 hE
      rcases k9 with k9 | k9 <;> rw [k9] at c0 <;> clear k9 <;> go_wp2 <;> go_ret <;> exact ⟨rfl,HB2.out⟩
     ·have q2:decide ((2:Int)≤(x.n:Int))=false:=decide_eq_false (by omega)
      obtain rfl:R=false:=by rw [hE,decide_eq_false hn]
      clear hn k0 hE
      rcases k9 with k9 | k9 <;> rw [k9] at c0 <;> clear k9 <;> go_wp2 <;> go_ret <;> exact ⟨rfl,HB2.out⟩
    ·rw [if_neg k9] at hE
     by_cases k11:x.kind=11
     ·rw [if_pos k11] at hE
      rw [k11] at c0
      clear k11 k0 k9
      by_cases hn:x.n=1
      ·obtain rfl:R=true:=by rw [hE,decide_eq_true hn]
       rw [hn] at c6
       clear hE hn
       go_wp2; go_ret
       exact ⟨rfl,HB2.out⟩
      ·have q1:((x.n:Int) == 1)=false:=beq_eq_false_iff_ne.2 (by omega)
       obtain rfl:R=false:=by rw [hE,decide_eq_false hn]
       clear hn hE
       go_wp2; go_ret
       exact ⟨rfl,HB2.out⟩
     ·rw [if_neg k11] at hE
      obtain rfl:=hE
      have n9:¬ x.kind=9:=fun h=>k9 (.inl h)
      have n10:¬ x.kind=10:=fun h=>k9 (.inr h)
      have q9:(x.kind == 9)=false:=by simp [n9]
      have q10:(x.kind == 10)=false:=by simp [n10]
      clear k9
      go_wp2; go_ret
      exact ⟨rfl,HB2.out⟩
theorem goodL_at {o:Int} {l:List Rng} {d:Nat}:goodL o l d=true↔∀ j,j<l.length→goodR (l.getD j noRng) (d+opens o (l.getD j noRng).kind)=true:=by
 induction l with
 | nil=>exact ⟨fun _ j hj=>by simp at hj,fun _=>rfl⟩
 | cons y l ih =>
  rw [goodL_cons,Bool.and_eq_true,ih]
  constructor
  ·rintro ⟨h1,h2⟩ j hj
   cases j with
   | zero=>exact h1
   | succ j=>exact h2 j (by simpa using hj)
  ·intro h
   exact ⟨h 0 (by simp),fun j hj=>h (j+1) (by simpa using hj)⟩
theorem goodL_no {o:Int} {l:List Rng} {d j:Nat} (hj:j<l.length) (h:goodR (l.getD j noRng) (d+opens o (l.getD j noRng).kind)=false):goodL o l d=false:=by
 rw [← Bool.not_eq_true,goodL_at]
 intro k
 rw [k j hj] at h; cases h
inductive LenOk:Rng→Prop
 | mk (k:Int) (v:Ver) (l:List Rng) (h:l.length≤9223372036854775807) (hl:∀ y ∈ l,LenOk y):LenOk (.mk k v l)
theorem LenOk.here {r:Rng} (h:LenOk r):r.subs.length≤9223372036854775807:=by cases h with | mk k v l h _=>exact h
theorem LenOk.sub {r y:Rng} (h:LenOk r) (hy:y ∈ r.subs):LenOk y:=by cases h with | mk k v l _ hl=>exact hl y hy
theorem LenOk.of_wt:∀ (m:Nat) (r:Rng),wt r≤m→m≤9223372036854775807→LenOk r
 | 0,r,h,_=>by rw [wt_eq] at h; omega
 | m+1,r,h,hM=>by
  obtain ⟨k,v,l⟩:=r
  rw [wt_eq] at h
  have h2:wtL l≤m:=by have:wtL (Rng.mk k v l).subs=wtL l:=rfl; omega
  exact .mk k v l (by have:=wtL_len l; omega) fun y hy=>LenOk.of_wt m y (Nat.le_trans (wt_mem hy) h2) (by omega)
theorem opens_two (a b:Int):opens a b≤2:=by unfold opens; split <;> split <;> omega
theorem good_full:∀ (m:Nat) (r:Rng) (x:RV) (B d:Nat) (w:World),wt r≤m→LenOk r→Lies w (LtB B) r x→B≤w.heap.size→d≤70 →
  Calls Tryz.prog 181 #[x.agg,.int .i64 d] w fun e w'=>e=.returned (.bool (goodR r d))∧Below w.heap.size w w'
 | 0,r,x,B,d,w,hm,_,hx,hB,hg=>by rw [wt_eq] at hm; omega
 | m+1,r,x,B,d,w,hm,hM,hx,hB,hdd=>by
  have IH:=Lib.hid (fun r x d w=>good_full m r x B d w)
  have hs:=hx.says
  obtain ⟨f,hln,_,_⟩:=hs.subs
  have HFits:=Lib.hid (fun W (hb:Below w.heap.size w W)=>fits_full x W (hs.pre.kept hb) (hs.build.kept hb) hs.fit)
  have HB:Hid (Below w.heap.size w (w.alloc x)):=(Below.refl _ _).alloc (Nat.le_refl _) _
  have HRA:Hid (RAt (w.alloc x) w.heap.size x):=RAt.new w _ x
  have HL:=Lib.hid (hx.keep (KeepS.of_below (S:=LtB B) HB.out))
  have HG:Hid (goodR r d=(decide (d≤64) && fits x.kind x.v x.n && goodL x.kind r.subs d)):=by
   have e1:=hs.kind
   have e2:=hs.ver
   rw [← e1,← e2,← hln]
   obtain ⟨k,v,l⟩:=r
   exact goodR_eq k v l d
  rw [wt_eq] at hm
  have hxn:x.n≤9223372036854775807:=by rw [← hln]; exact hM.here
  have HLO:=Lib.hid hM
  have HLN:=Lib.hid hln
  clear hs hx hln hM
  unfold RV.agg
  generalize hR:goodR r d=R
  replace HG:Hid (R=(decide (d≤64) && fits x.kind x.v x.n && goodL x.kind r.subs d)):=hR.symm.trans HG.out
  clear hR
  go_enter Tryz.func181,Tryz.ntmps181
  go_upto_region 1 with (fail)
  generalize w.alloc x=W at HB HRA HL ⊢
  obtain ⟨y1,y2,c0,c1,c2,c3,c4,c5,c6⟩:=HRA.out
  by_cases hd:¬ d≤64
  ·have hd64:(64:Int)<(d:Int):=by omega
   obtain rfl:R=false:=by rw [HG.out,decide_eq_false hd,Bool.false_and,Bool.false_and]
   clear hd HG
   go_wp2; go_ret
   exact ⟨rfl,HB.out⟩
  replace hd:=Classical.not_not.1 hd
  have hd64:¬ (64:Int)<(d:Int):=by omega
  replace HG:Hid (R=(fits x.kind x.v x.n && goodL x.kind r.subs d)):=by unfold Hid; rw [HG.out,decide_eq_true hd,Bool.true_and]
  go_wp2_with fail
  refine (HFits.out W HB.out).mono ?_
  rintro e W2 ⟨rfl,hb⟩
  have HB2:=Lib.hid (HB.out.trans (hb.mono HB.out.size))
  have HRA2:=Lib.hid (HRA.out.kept hb HRA.out.1)
  have HL2:=Lib.hid (HL.out.keep (KeepS.of_below (S:=LtB B) hb))
  have hB2:B≤W2.heap.size:=Nat.le_trans hB HB2.out.size
  clear hb y1 y2 c0 c1 c2 c3 c4 c5 c6 HB HRA HL HFits
  obtain ⟨y1,y2,c0,c1,c2,c3,c4,c5,c6⟩:=HRA2.out
  cases hfi:fits x.kind x.v x.n
  ·obtain rfl:R=false:=by rw [HG.out,hfi]; rfl
   clear HG hfi
   go_wp2; go_ret
   exact ⟨rfl,HB2.out⟩
  replace HG:Hid (R=goodL x.kind r.subs d):=by unfold Hid; rw [HG.out,hfi,Bool.true_and]
  clear hfi
  go_wp2
  go_loopw [4,6,17] (fun rv _ iv W'=>rv=.bool false∧∃ k:Nat,k≤x.n∧iv=.int .i64 k∧Hid (Below W2.heap.size W2 W')∧Hid (∀ j,j<k→goodR (r.subs.getD j noRng) (d+opens x.kind (r.subs.getD j noRng).kind)=true)) (fun _ _ iv _=>x.n - (intOf iv).toNat)
  case atStart=>exact ⟨rfl,0,Nat.zero_le _,rfl,Below.refl _ _,fun j hj=>absurd hj (Nat.not_lt_zero j)⟩
  case round =>
   obtain ⟨rfl,k,hk,rfl,HB3,HQ⟩:=hrel
   by_cases hlt:k<x.n
   ·obtain ⟨b,o,c,hLe,hSb,hcl,hcy⟩:=HL2.out.says.subs.one hlt
    have hll:k<r.subs.length:=by rw [HLN.out]; exact hlt
    have hmem:r.subs.getD k noRng ∈ r.subs:=by
     rw [List.getD_eq_getElem?_getD,List.getElem?_eq_getElem (by omega)]; exact List.getElem_mem _
    have hwt:wt (r.subs.getD k noRng)≤m:=by have:=wt_mem hmem; omega
    have ho2:=opens_two x.kind c.kind
    have hoi:IntKind.i64.wrap ((d:Int)+(opens x.kind c.kind:Int))=((d+opens x.kind c.kind:Nat):Int):=by rw [IntKind.wrap_i64] <;> omega
    have hqe:goodR (r.subs.getD k noRng) (d+opens x.kind c.kind)=goodR (r.subs.getD k noRng) (d+opens x.kind (r.subs.getD k noRng).kind):=by rw [hcy.says.kind]
    have hlo:=HLO.out.sub hmem
    obtain ⟨q,hq⟩:∃ q,q=r.subs.getD k noRng:=⟨_,rfl⟩
    rw [← hq] at hcy hwt hlo
    have hqe:goodR q (d+opens x.kind c.kind)=goodR (r.subs.getD k noRng) (d+opens x.kind (r.subs.getD k noRng).kind):=by rw [hq]; exact hqe
    clear hq
    have hcw:=(hcl.keep (KeepS.of_below (S:=LtB B) HB3.out) hSb).cells
    obtain ⟨e0,e1,e2,e3,e4,e5,e6⟩:=hcw
    have HBA:Hid (Below W2.heap.size W2 ((wr.alloc c).drew)):=(HB3.out.alloc HB3.out.size _).drew
    have HXd:Hid (RAt ((wr.alloc c).drew) w.heap.size x):=HRA2.out.kept HBA.out HRA2.out.1
    have HCd:Hid (RAt ((wr.alloc c).drew) wr.heap.size c):=by have h:=RAt.new wr 55 c; exact h
    have HLc:Hid (Lies ((wr.alloc c).drew) (LtB B) q c):=hcy.keep (KeepS.of_below (S:=LtB B) HBA.out)
    have hBA:B≤((wr.alloc c).drew).heap.size:=Nat.le_trans hB2 HBA.out.size
    have HQE:=Lib.hid hqe
    rw [hLe]
    clear hcl hcy hmem hqe
    go_upto_region 6 with (fail)
    clear e0 e1 e2 e3 e4 e5 e6 c0 c1 c2 c3 c4 c5 c6
    have hqe:=HQE.out
    refine wp_region_held_drew (S:=fun w'=>RAt w' w.heap.size x∧RAt w' wr.heap.size c) (by kernel_rfl) ⟨HXd.out,HCd.out⟩ (fun hHeld=>?_)
    refine tk 0 rfl c ?_ fun w' hS'=>by obtain ⟨y1,y2,c0,c1,c2,c3,c4,c5,c6⟩:=hS'.2; go_simp
    refine tk 1 rfl (.int .i64 d) ?_
    refine tk 2 rfl (.pointer (some ⟨w.heap.size,0,none⟩)) ?_
    refine tk 3 rfl x.kind ?_ fun w' hS'=>by obtain ⟨y1,y2,c0,c1,c2,c3,c4,c5,c6⟩:=hS'.1; go_simp
    refine tk 4 rfl (.pointer (some ⟨wr.heap.size,0,none⟩)) ?_
    refine tk 5 rfl c.kind ?_ fun w' hS'=>by obtain ⟨y1,y2,c0,c1,c2,c3,c4,c5,c6⟩:=hS'.2; go_simp
    refine cl 6 rfl fun K hK=>?_
    go_simp
    refine (opens_any x.kind c.kind _).mono ?_
    rintro e wg1 ⟨rfl,rfl⟩
    have hb:=True.intro
    clear hb hHeld
    refine hK.out _ _ ⟨HXd.out,HCd.out⟩ (fun hHeld=>?_)
    clear hK K
    try simp only [Act.put,p1,p2,p3]
    refine tk 7 rfl (.int .i64 ((d+opens x.kind c.kind:Nat):Int)) ?_
    refine cl 8 rfl fun K hK=>?_
    go_simp
    refine (IH.out q c (d+opens x.kind c.kind) _ hwt hlo HLc.out hBA (by omega)).mono ?_
    rintro e wg2 ⟨rfl,hb⟩
    have hbk:=hb
    have HB5:=Lib.hid (HBA.out.trans (hb.mono HBA.out.size))
    clear hb hHeld
    refine hK.out _ _ ⟨HXd.out.kept hbk HXd.out.1,HCd.out.kept hbk HCd.out.1⟩ (fun hHeld=>?_)
    clear hK K
    try simp only [Act.put,p1,p2,p3]
    refine tk 9 rfl (.bool (!goodR q (d+opens x.kind c.kind))) ?_
    refine wpAnyH_done (by kernel_rfl) ?_ _
    cases hqb:goodR q (d+opens x.kind c.kind)
    ·obtain rfl:R=false:=HG.out.trans (goodL_no (by omega) (hqe.symm.trans hqb))
     clear HQ HG
     go_wp2
     go_ret
     exact ⟨rfl,HB2.out.trans (HB5.out.mono HB2.out.size)⟩
    ·go_wp2
     exact ⟨⟨rfl,k+1,by omega,by go_num,HB5.out,fun j hj=>by
      by_cases hjk:j=k
      ·subst hjk; exact hqe.symm.trans hqb
      ·exact HQ.out j (by omega)⟩,by simp [intOf]; omega⟩

   ·obtain rfl:k=x.n:=by omega
    clear c0 c1 c2 c3 c4 c5 c6
    have HA:=Lib.hid (goodL_at.2 fun j hj=>HQ.out j (by rw [← HLN.out]; exact hj))
    obtain rfl:R=true:=HG.out.trans HA.out
    clear HG
    go_wp2
    go_ret
    exact ⟨rfl,HB2.out.trans (HB3.out.mono HB2.out.size)⟩
theorem goodIs_any (r:Rng) (x:RV) (B:Nat) (w:World) (hm:LenOk r) (hx:Lies w (LtB B) r x) (hB:B≤w.heap.size) :
  Calls Tryz.prog 129 #[x.agg] w fun e w'=>e=.returned (.bool (goodR r 0))∧Below w.heap.size w w':=by
 have HB:Hid (Below w.heap.size w (w.alloc x)):=(Below.refl _ _).alloc (Nat.le_refl _) _
 have HRA:Hid (RAt (w.alloc x) w.heap.size x):=RAt.new w _ x
 have HL:=Lib.hid (hx.keep (KeepS.of_below (S:=LtB B) HB.out))
 have HG:=Lib.hid (fun W h1 h2=>good_full (wt r) r x B 0 W (Nat.le_refl _) hm h1 h2 (by omega))
 have hB2:B≤(w.alloc x).heap.size:=Nat.le_trans hB HB.out.size
 clear hx
 unfold RV.agg
 go_enter Tryz.func129,Tryz.ntmps129
 go_upto_region 1 with (fail)
 generalize w.alloc x=W at HB HRA HL hB2 ⊢
 obtain ⟨y1,y2,c0,c1,c2,c3,c4,c5,c6⟩:=HRA.out
 go_wp2_with fail
 refine (HG.out W HL.out hB2).mono ?_
 rintro e W2 ⟨rfl,hb⟩
 have HB2:=Lib.hid (HB.out.trans (hb.mono HB.out.size))
 clear hb
 go_wp2
 go_ret
 exact ⟨rfl,HB2.out⟩
end Go.Proofs.YtnpjklaaokiikaaGreatDoor.Range
