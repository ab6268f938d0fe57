/-
  What the theorem of the last text needs of these: PrCaret, PrFullD, RgWeight, SvFore. Conditions: as each theorem states.
-/
import Derived.Test.YtgakcdcfblgagaaGreatDoorRoA1
import Derived.Test.YtgakcdcfblgagaaGreatDoorRoA5
import Derived.Test.YtgakcdcfblgagaaGreatDoorRoA9
import Derived.Test.YtgakcdcfblgagaaGreatDoorRoA10
set_option maxRecDepth 100000
set_option maxHeartbeats 25600000
namespace Go.Proofs.YtgakcdcfblgagaaGreatDoor.Prec
open Go.RowKit Num Ident Semver

theorem EndPost.of_none {w:World} {e:Ending} {w':World} (h:NoneZ w e w'):EndPost w none e w':=by
 obtain ⟨rfl,hb⟩:=h
 exact ⟨none,0,rfl,SRow.none_ _ _,rfl,hb⟩
theorem EndPost.of_end {w:World} {x y z:Nat} {p q r:Int} {e:Ending} {w':World} (h:EndZ w p q r e w') (hp:p=(x:Int)) (hq:q=(y:Int)) (hr:r=(z:Int)):EndPost w (some (firstV x y z)) e w':=by
 subst hp hq hr
 obtain ⟨A,rfl,h1,hb⟩:=h
 exact ⟨A,1,rfl,h1,rfl,hb⟩
theorem end_0_no {x y z:Nat} (h:(9223372036854775807:Int)≤(x:Int)):endV x y z 0=none:=by unfold endV; rw [if_pos rfl,if_pos (by omega)]
theorem end_0_yes {x y z:Nat} (h:(x:Int)<9223372036854775807):endV x y z 0=some (firstV (x+1) 0 0):=by unfold endV; rw [if_pos rfl,if_neg (by omega)]
theorem end_1_no {x y z:Nat} (h:(9223372036854775807:Int)≤(y:Int)):endV x y z 1=none:=by unfold endV; rw [if_neg (by omega),if_pos rfl,if_pos (by omega)]
theorem end_1_yes {x y z:Nat} (h:(y:Int)<9223372036854775807):endV x y z 1=some (firstV x (y+1) 0):=by unfold endV; rw [if_neg (by omega),if_pos rfl,if_neg (by omega)]
theorem end_2_no {x y z:Nat} (h:(9223372036854775807:Int)≤(z:Int)):endV x y z 2=none:=by unfold endV; rw [if_neg (by omega),if_neg (by omega),if_pos (by omega)]
theorem end_2_yes {x y z:Nat} (h:(z:Int)<9223372036854775807):endV x y z 2=some (firstV x y (z+1)):=by unfold endV; rw [if_neg (by omega),if_neg (by omega),if_neg (by omega)]
theorem endAt_0 (x y z:Nat) (w:World):Calls Tryz.prog 251 #[.agg #[.int .u64 x,.int .u64 y,.int .u64 z],.int .i64 0] w (EndPost w (endV x y z 0)):=by
 by_cases h:(9223372036854775807:Int)≤(x:Int)
 ·rw [end_0_no h]
  exact (endNo0 x y z w h).mono fun e w' hk=>EndPost.of_none hk
 ·rw [end_0_yes (by omega)]
  exact (endAt0 x y z w (by omega) (by omega)).mono fun e w' hk=>EndPost.of_end hk (by omega) (by omega) (by omega)
theorem endAt_1 (x y z:Nat) (w:World):Calls Tryz.prog 251 #[.agg #[.int .u64 x,.int .u64 y,.int .u64 z],.int .i64 1] w (EndPost w (endV x y z 1)):=by
 by_cases h:(9223372036854775807:Int)≤(y:Int)
 ·rw [end_1_no h]
  exact (endNo1 x y z w h).mono fun e w' hk=>EndPost.of_none hk
 ·rw [end_1_yes (by omega)]
  exact (endAt1 x y z w (by omega) (by omega)).mono fun e w' hk=>EndPost.of_end hk (by omega) (by omega) (by omega)
theorem endAt_2 (x y z:Nat) (w:World):Calls Tryz.prog 251 #[.agg #[.int .u64 x,.int .u64 y,.int .u64 z],.int .i64 2] w (EndPost w (endV x y z 2)):=by
 by_cases h:(9223372036854775807:Int)≤(z:Int)
 ·rw [end_2_no h]
  exact (endNo2 x y z w h).mono fun e w' hk=>EndPost.of_none hk
 ·rw [end_2_yes (by omega)]
  exact (endAt2 x y z w (by omega) (by omega)).mono fun e w' hk=>EndPost.of_end hk (by omega) (by omega) (by omega)
def EndIs (w:World) (x:Ver) (s:Bool) (e:Ending) (w':World):Prop :=
 ∃ A' c',e=.returned (.tuple #[.agg #[x.a,x.b,x.c,.slice A' x.pre.length c',.slice none x.build.length 0],.bool s])∧SRow w' A' x.pre.length x.pre∧x.build=[]∧Below w.heap.size w w'

theorem tilde_any (v:Ver) (A:Option Addr) (c:Nat) (B:Option Addr) (d:Nat) (w:World) :
  Calls Tryz.prog 221 #[.agg #[v.a,v.b,v.c,.slice A v.pre.length c,.slice B v.build.length d]] w (EndPost w (tildeV v)):=by
 have HB0:Hid (Below w.heap.size w ((w.alloc (.cells #[v.a,v.b,v.c,.slice A v.pre.length c,.slice B v.build.length d] 37)).alloc false)):=((Below.refl _ _).alloc (Nat.le_refl _) _).alloc (by simp) _
 have K1:Hid (At5 ((w.alloc (.cells #[v.a,v.b,v.c,.slice A v.pre.length c,.slice B v.build.length d] 37)).alloc false) w.heap.size v.a v.b v.c (.slice A v.pre.length c) (.slice B v.build.length d)):=(At5.new w 37 _ _ _ _ _).kept ((Below.refl _ _).alloc (Nat.le_refl _) _) (by simp)
 have K2:Hid (At5 ((w.alloc (.cells #[v.a,v.b,v.c,.slice A v.pre.length c,.slice B v.build.length d] 37)).alloc false) (w.heap.size+1) (.int .u64 0) (.int .u64 0) (.int .u64 0) (.slice none 0 0) (.slice none 0 0)):=by
  have:=At5.new (w.alloc (.cells #[v.a,v.b,v.c,.slice A v.pre.length c,.slice B v.build.length d] 37)) 37 (.int .u64 0) (.int .u64 0) (.int .u64 0) (.slice none 0 0) (.slice none 0 0)
  rw [size_alloc] at this; exact this
 have HE:Hid (∀ W,Calls Tryz.prog 251 #[.agg #[v.a,v.b,v.c],.int .i64 1] W (EndPost W (tildeV v))):=fun W=>endAt_1 v.a v.b v.c W
 generalize tildeV v=o at HE ⊢
 have HP':Hid (∀ e w',EndIs w (verOf o) o.isSome e w'→EndPost w o e w'):=fun _ _ h=>h
 go_enter Tryz.func221,Tryz.ntmps221
 go_upto_region 1 with (fail)
 generalize ((w.alloc (.cells #[v.a,v.b,v.c,.slice A v.pre.length c,.slice B v.build.length d] 37)).alloc false)=W at HB0 K1 K2 ⊢
 obtain ⟨hz0,_,x0,x1,x2,x3,x4⟩:=K1.out
 obtain ⟨hz1,_,y0,y1,y2,y3,y4⟩:=K2.out
 go_wp2_with fail
 refine (coreOf_any _ _ _ _ _ _).mono ?_
 rintro e w2 ⟨rfl,hb2⟩
 have L2:=Lib.hid (K2.out.kept hb2 hz1)
 have B1:=Lib.hid (HB0.out.trans (hb2.mono (by omega)))
 have hz2:=L2.out.1
 clear hb2 x0 x1 x2 x3 x4 y0 y1 y2 y3 y4
 obtain ⟨_,_,y0,y1,y2,y3,y4⟩:=L2.out
 go_wp2_with fail
 refine (HE.out _).mono ?_
 rintro e w3 ⟨A',c',rfl,hr,hbu,hb3⟩
 have HU:=Lib.hid hbu
 generalize verOf o=x at hr HU HP' ⊢
 generalize o.isSome=s at HP' ⊢
 have N2:=Lib.hid (L2.out.kept hb3 hz2)
 have B3:=Lib.hid (B1.out.trans (hb3.mono (by omega)))
 obtain ⟨hz3,hf,g0,g1,g2,g3,g4⟩:=N2.out
 have R:=Lib.hid (hr.set5 g0 g1 g2 g3 g4 (by simp) (by simp) (by simp) (by simp) (by simp) x.a x.b x.c (.slice A' x.pre.length c') (.slice none x.build.length 0))
 have B4:Hid (Below w.heap.size w (set5 w3 (w.heap.size+1) x.a x.b x.c (.slice A' x.pre.length c') (.slice none x.build.length 0))):=(((((B3.out.setCell (by simp) _).setCell (by simp) _).setCell (by simp) _).setCell (by simp) _).setCell (by simp) _)
 have N3:=Lib.hid (N2.out.set5 x.a x.b x.c (.slice A' x.pre.length c') (.slice none x.build.length 0))
 clear hr hb3
 unfold set5 at B4 N3
 go_wp2
 generalize (((((w3.setCell ⟨w.heap.size+1,0,none⟩ x.a).setCell ⟨w.heap.size+1,1,none⟩ x.b).setCell ⟨w.heap.size+1,2,none⟩ x.c).setCell ⟨w.heap.size+1,3,none⟩ (.slice A' x.pre.length c')).setCell ⟨w.heap.size+1,4,none⟩ (.slice none x.build.length 0))=w4 at R B4 N3 ⊢
 obtain ⟨_,_,z0,z1,z2,z3,z4⟩:=N3.out
 exact bodyPost_ret (v:=.tuple #[.agg #[x.a,x.b,x.c,.slice A' x.pre.length c',.slice none x.build.length 0],.bool s]) (by simp [results,Tryz.results221,go_sem,z0,z1,z2,z3,z4]) rfl (HP'.out _ _ ⟨A',c',rfl,R.out,HU.out,B4.out⟩)

def CaretAt (v:Ver) (i:Nat):Prop:=i=0∨(i=1∧v.a=0)∨(i=2∧v.a=0∧v.b=0)
def CaretJ (w:World) (v:Ver) (A:Option Addr) (c:Nat) (B:Option Addr) (d:Nat) (a':Act) (w':World):Prop :=
 ∃ (i b:Nat) (u6 u7 u8 u9 u10 u11 u12 u13 u14 u15 u16 u17 u18 u19 u20 u21 u22:Value),Below w.heap.size w w'∧At5 w' (w.heap.size+1) (.int .u64 0) (.int .u64 0) (.int .u64 0) (.slice none 0 0) (.slice none 0 0)∧At3 w' b v.a v.b v.c∧CaretAt v i ∧
  a'={ tmps:=#[.agg #[v.a,v.b,v.c,.slice A v.pre.length c,.slice B v.build.length d],.pointer (some ⟨w.heap.size,0,none⟩),.pointer (some ⟨w.heap.size+1,0,none⟩),.bool false,.pointer (some ⟨b,0,none⟩),.int .i64 i,u6,u7,u8,u9,u10,u11,u12,u13,u14,u15,u16,u17,u18,u19,u20,u21,u22],defers:=[] }
def CaretM (a':Act) (_:World):Nat:=3 - (intOf (a'.tmps.getD 5 undef)).toNat
theorem caret_0 {v:Ver} (h:v.a≠0):caretV v=endV v.a v.b v.c 0:=by unfold caretV placeV; rw [if_pos h]
theorem caret_1 {v:Ver} (h:v.a=0) (h2:v.b≠0):caretV v=endV v.a v.b v.c 1:=by unfold caretV placeV; rw [if_neg (by omega),if_pos h2]
theorem caret_2 {v:Ver} (h:v.a=0) (h2:v.b=0):caretV v=endV v.a v.b v.c 2:=by unfold caretV placeV; rw [if_neg (by omega),if_neg (by omega)]
theorem beq0_no {x:Nat} (h:x≠0):((x:Int) == 0)=false:=by simp; omega
theorem beq0_yes {x:Nat} (h:x=0):((x:Int) == 0)=true:=by simp [h]

theorem caret_any (v:Ver) (A:Option Addr) (c:Nat) (B:Option Addr) (d:Nat) (w:World) :
  Calls Tryz.prog 220 #[.agg #[v.a,v.b,v.c,.slice A v.pre.length c,.slice B v.build.length d]] w (EndPost w (caretV v)):=by
 have HB0:Hid (Below w.heap.size w ((w.alloc (.cells #[v.a,v.b,v.c,.slice A v.pre.length c,.slice B v.build.length d] 37)).alloc false)):=((Below.refl _ _).alloc (Nat.le_refl _) _).alloc (by simp) _
 have K1:Hid (At5 ((w.alloc (.cells #[v.a,v.b,v.c,.slice A v.pre.length c,.slice B v.build.length d] 37)).alloc false) w.heap.size v.a v.b v.c (.slice A v.pre.length c) (.slice B v.build.length d)):=(At5.new w 37 _ _ _ _ _).kept ((Below.refl _ _).alloc (Nat.le_refl _) _) (by simp)
 have K2:Hid (At5 ((w.alloc (.cells #[v.a,v.b,v.c,.slice A v.pre.length c,.slice B v.build.length d] 37)).alloc false) (w.heap.size+1) (.int .u64 0) (.int .u64 0) (.int .u64 0) (.slice none 0 0) (.slice none 0 0)):=by
  have:=At5.new (w.alloc (.cells #[v.a,v.b,v.c,.slice A v.pre.length c,.slice B v.build.length d] 37)) 37 (.int .u64 0) (.int .u64 0) (.int .u64 0) (.slice none 0 0) (.slice none 0 0)
  rw [size_alloc] at this; exact this
 obtain ⟨o,ho⟩:∃ o,caretV v=o:=⟨_,rfl⟩
 have HO:=Lib.hid ho
 rw [ho]
 clear ho
 have HP':Hid (∀ e w',EndIs w (verOf o) o.isSome e w'→EndPost w o e w'):=fun _ _ h=>h
 go_enter Tryz.func220,Tryz.ntmps220
 go_wp2_with fail
 refine wp_scope_back 0 (CaretJ w v A c B d) CaretM rfl ?_ ?_
 ·rintro a' w1 ⟨i,b,u6,u7,u8,u9,u10,u11,u12,u13,u14,u15,u16,u17,u18,u19,u20,u21,u22,hb1,k2,k3,hat,rfl⟩
  have B1:=Lib.hid hb1
  have L2:=Lib.hid k2
  have L3:=Lib.hid k3
  have hz2:=k2.1
  have hz3':=k3.1
  clear hb1
  obtain ⟨_,_,x0,x1,x2⟩:=k3
  obtain ⟨_,_,y0,y1,y2,y3,y4⟩:=k2
  clear HB0 K1 K2
  rcases hat with rfl | ⟨rfl,h1⟩ | ⟨rfl,h1,h2⟩
  ·by_cases h:v.a=0
   ·have e1:=beq0_yes h
    have HH:=Lib.hid h
    clear h
    go_wp2
    go_step3
    refine ⟨rfl,⟨1,b,_,_,_,_,_,_,_,_,_,_,_,_,_,_,_,_,_,B1.out,L2.out,L3.out,.inr (.inl ⟨rfl,HH.out⟩),rfl⟩,?_⟩
    simp [CaretM,intOf]
   ·have HE:Hid (∀ W,Calls Tryz.prog 251 #[.agg #[v.a,v.b,v.c],.int .i64 0] W (EndPost W o)):=fun W=>by
     have k:=endAt_0 v.a v.b v.c W
     rw [← caret_0 h,HO.out] at k
     exact k
    have e1:=beq0_no h
    clear h
    go_wp2_with fail
    refine (HE.out _).mono ?_
    rintro e w3 ⟨A',c',rfl,hr,hbu,hb3⟩
    have HU:=Lib.hid hbu
    generalize verOf o=x at hr HU HP' ⊢
    generalize o.isSome=s at HP' ⊢
    have N2:=Lib.hid (L2.out.kept hb3 hz2)
    have B3:=Lib.hid (B1.out.trans (hb3.mono (by omega)))
    obtain ⟨hz3,hf,g0,g1,g2,g3,g4⟩:=N2.out
    have R:=Lib.hid (hr.set5 g0 g1 g2 g3 g4 (by simp) (by simp) (by simp) (by simp) (by simp) x.a x.b x.c (.slice A' x.pre.length c') (.slice none x.build.length 0))
    have B4:Hid (Below w.heap.size w (set5 w3 (w.heap.size+1) x.a x.b x.c (.slice A' x.pre.length c') (.slice none x.build.length 0))):=(((((B3.out.setCell (by simp) _).setCell (by simp) _).setCell (by simp) _).setCell (by simp) _).setCell (by simp) _)
    have N3:=Lib.hid (N2.out.set5 x.a x.b x.c (.slice A' x.pre.length c') (.slice none x.build.length 0))
    clear hr hb3
    unfold set5 at B4 N3
    go_wp2
    simp only [Exit.jump]
    generalize (((((w3.setCell ⟨w.heap.size+1,0,none⟩ x.a).setCell ⟨w.heap.size+1,1,none⟩ x.b).setCell ⟨w.heap.size+1,2,none⟩ x.c).setCell ⟨w.heap.size+1,3,none⟩ (.slice A' x.pre.length c')).setCell ⟨w.heap.size+1,4,none⟩ (.slice none x.build.length 0))=w4 at R B4 N3 ⊢
    obtain ⟨_,_,z0,z1,z2,z3,z4⟩:=N3.out
    exact bodyPost_ret (v:=.tuple #[.agg #[x.a,x.b,x.c,.slice A' x.pre.length c',.slice none x.build.length 0],.bool s]) (by simp [results,Tryz.results220,go_sem,z0,z1,z2,z3,z4]) rfl (HP'.out _ _ ⟨A',c',rfl,R.out,HU.out,B4.out⟩)
  ·have H1:=Lib.hid h1
   clear h1
   by_cases h:v.b=0
   ·have e1:=beq0_yes h
    have HH:=Lib.hid h
    clear h
    go_wp2
    go_step3
    refine ⟨rfl,⟨2,b,_,_,_,_,_,_,_,_,_,_,_,_,_,_,_,_,_,B1.out,L2.out,L3.out,.inr (.inr ⟨rfl,H1.out,HH.out⟩),rfl⟩,?_⟩
    simp [CaretM,intOf]
   ·have HE:Hid (∀ W,Calls Tryz.prog 251 #[.agg #[v.a,v.b,v.c],.int .i64 1] W (EndPost W o)):=fun W=>by
     have k:=endAt_1 v.a v.b v.c W
     rw [← caret_1 H1.out h,HO.out] at k
     exact k
    have e1:=beq0_no h
    clear h
    go_wp2_with fail
    refine (HE.out _).mono ?_
    rintro e w3 ⟨A',c',rfl,hr,hbu,hb3⟩
    have HU:=Lib.hid hbu
    generalize verOf o=x at hr HU HP' ⊢
    generalize o.isSome=s at HP' ⊢
    have N2:=Lib.hid (L2.out.kept hb3 hz2)
    have B3:=Lib.hid (B1.out.trans (hb3.mono (by omega)))
    obtain ⟨hz3,hf,g0,g1,g2,g3,g4⟩:=N2.out
    have R:=Lib.hid (hr.set5 g0 g1 g2 g3 g4 (by simp) (by simp) (by simp) (by simp) (by simp) x.a x.b x.c (.slice A' x.pre.length c') (.slice none x.build.length 0))
    have B4:Hid (Below w.heap.size w (set5 w3 (w.heap.size+1) x.a x.b x.c (.slice A' x.pre.length c') (.slice none x.build.length 0))):=(((((B3.out.setCell (by simp) _).setCell (by simp) _).setCell (by simp) _).setCell (by simp) _).setCell (by simp) _)
    have N3:=Lib.hid (N2.out.set5 x.a x.b x.c (.slice A' x.pre.length c') (.slice none x.build.length 0))
    clear hr hb3
    unfold set5 at B4 N3
    go_wp2
    simp only [Exit.jump]
    generalize (((((w3.setCell ⟨w.heap.size+1,0,none⟩ x.a).setCell ⟨w.heap.size+1,1,none⟩ x.b).setCell ⟨w.heap.size+1,2,none⟩ x.c).setCell ⟨w.heap.size+1,3,none⟩ (.slice A' x.pre.length c')).setCell ⟨w.heap.size+1,4,none⟩ (.slice none x.build.length 0))=w4 at R B4 N3 ⊢
    obtain ⟨_,_,z0,z1,z2,z3,z4⟩:=N3.out
    exact bodyPost_ret (v:=.tuple #[.agg #[x.a,x.b,x.c,.slice A' x.pre.length c',.slice none x.build.length 0],.bool s]) (by simp [results,Tryz.results220,go_sem,z0,z1,z2,z3,z4]) rfl (HP'.out _ _ ⟨A',c',rfl,R.out,HU.out,B4.out⟩)
  ·have H1:=Lib.hid h1
   have H2:=Lib.hid h2
   clear h1 h2
   have HE:Hid (∀ W,Calls Tryz.prog 251 #[.agg #[v.a,v.b,v.c],.int .i64 2] W (EndPost W o)):=fun W=>by
    have k:=endAt_2 v.a v.b v.c W
    rw [← caret_2 H1.out H2.out,HO.out] at k
    exact k
   go_wp2_with fail
   refine (HE.out _).mono ?_
   rintro e w3 ⟨A',c',rfl,hr,hbu,hb3⟩
   have HU:=Lib.hid hbu
   generalize verOf o=x at hr HU HP' ⊢
   generalize o.isSome=s at HP' ⊢
   have N2:=Lib.hid (L2.out.kept hb3 hz2)
   have B3:=Lib.hid (B1.out.trans (hb3.mono (by omega)))
   obtain ⟨hz3,hf,g0,g1,g2,g3,g4⟩:=N2.out
   have R:=Lib.hid (hr.set5 g0 g1 g2 g3 g4 (by simp) (by simp) (by simp) (by simp) (by simp) x.a x.b x.c (.slice A' x.pre.length c') (.slice none x.build.length 0))
   have B4:Hid (Below w.heap.size w (set5 w3 (w.heap.size+1) x.a x.b x.c (.slice A' x.pre.length c') (.slice none x.build.length 0))):=(((((B3.out.setCell (by simp) _).setCell (by simp) _).setCell (by simp) _).setCell (by simp) _).setCell (by simp) _)
   have N3:=Lib.hid (N2.out.set5 x.a x.b x.c (.slice A' x.pre.length c') (.slice none x.build.length 0))
   clear hr hb3
   unfold set5 at B4 N3
   go_wp2
   simp only [Exit.jump]
   generalize (((((w3.setCell ⟨w.heap.size+1,0,none⟩ x.a).setCell ⟨w.heap.size+1,1,none⟩ x.b).setCell ⟨w.heap.size+1,2,none⟩ x.c).setCell ⟨w.heap.size+1,3,none⟩ (.slice A' x.pre.length c')).setCell ⟨w.heap.size+1,4,none⟩ (.slice none x.build.length 0))=w4 at R B4 N3 ⊢
   obtain ⟨_,_,z0,z1,z2,z3,z4⟩:=N3.out
   exact bodyPost_ret (v:=.tuple #[.agg #[x.a,x.b,x.c,.slice A' x.pre.length c',.slice none x.build.length 0],.bool s]) (by simp [results,Tryz.results220,go_sem,z0,z1,z2,z3,z4]) rfl (HP'.out _ _ ⟨A',c',rfl,R.out,HU.out,B4.out⟩)
 ·intro HP
  go_upto_region 1 with (fail)
  generalize ((w.alloc (.cells #[v.a,v.b,v.c,.slice A v.pre.length c,.slice B v.build.length d] 37)).alloc false)=W at HB0 K1 K2 ⊢
  obtain ⟨hz0,_,x0,x1,x2,x3,x4⟩:=K1.out
  obtain ⟨hz1,_,y0,y1,y2,y3,y4⟩:=K2.out
  go_wp2_with fail
  refine (coreOf_any _ _ _ _ _ _).mono ?_
  rintro e w2 ⟨rfl,hb2⟩
  have L2:=Lib.hid (K2.out.kept hb2 hz1)
  have B1:=Lib.hid (HB0.out.trans (hb2.mono (by omega)))
  have hz2:=L2.out.1
  have M2:=Lib.hid (L2.out.kept ((Below.refl w2.heap.size w2).alloc (Nat.le_refl _) (.cells #[v.a,v.b,v.c] 250)) hz2)
  have M3:=Lib.hid (At3.new w2 250 v.a v.b v.c)
  have B2:Hid (Below w.heap.size w (w2.alloc (.cells #[v.a,v.b,v.c] 250))):=B1.out.alloc (by omega) _
  clear hb2 x0 x1 x2 x3 x4 y0 y1 y2 y3 y4
  go_wp2
  go_step3
  rename_i hK
  exact hK _ _ (HP.out _ _ ⟨0,w2.heap.size,_,_,_,_,_,_,_,_,_,_,_,_,_,_,_,_,_,B2.out,M2.out,M3.out,.inl rfl,rfl⟩)
end Go.Proofs.YtgakcdcfblgagaaGreatDoor.Prec
namespace Go.Proofs.YtgakcdcfblgagaaGreatDoor.Prec
open Go.RowKit Num Ident Semver

theorem full_anyD (u v:Ver) (A1 A2 B1 B2:Option Addr) (c1 c2 d1 d2:Nat) (w:World) (r1:SRow w A1 u.pre.length u.pre) (r2:SRow w A2 u.build.length u.build) (q1:SRow w B1 v.pre.length v.pre) (q2:SRow w B2 v.build.length v.build) (f1:Fit u.pre) (f2:Fit u.build) (g1:Fit v.pre) (g2:Fit v.build) :
  Calls Tryz.prog 60 #[.agg #[u.a,u.b,u.c,.slice A1 u.pre.length c1,.slice A2 u.build.length c2],.agg #[v.a,v.b,v.c,.slice B1 v.pre.length d1,.slice B2 v.build.length d2]] w fun e w'=>e=.returned (.int .i64 (fullV u v))∧BelowD w.heap.size w w':=by
 have HB0:Hid (BelowD w.heap.size w ((w.alloc (.cells #[u.a,u.b,u.c,.slice A1 u.pre.length c1,.slice A2 u.build.length c2] 37)).alloc (.cells #[v.a,v.b,v.c,.slice B1 v.pre.length d1,.slice B2 v.build.length d2] 37))):=((BelowD.refl _ _).alloc (Nat.le_refl _) _).alloc (by simp) _
 have K1:Hid (At5 ((w.alloc (.cells #[u.a,u.b,u.c,.slice A1 u.pre.length c1,.slice A2 u.build.length c2] 37)).alloc (.cells #[v.a,v.b,v.c,.slice B1 v.pre.length d1,.slice B2 v.build.length d2] 37)) w.heap.size u.a u.b u.c (.slice A1 u.pre.length c1) (.slice A2 u.build.length c2)):=(At5.new w 37 _ _ _ _ _).kept ((Below.refl _ _).alloc (Nat.le_refl _) _) (by simp)
 have K2:Hid (At5 ((w.alloc (.cells #[u.a,u.b,u.c,.slice A1 u.pre.length c1,.slice A2 u.build.length c2] 37)).alloc (.cells #[v.a,v.b,v.c,.slice B1 v.pre.length d1,.slice B2 v.build.length d2] 37)) (w.heap.size+1) v.a v.b v.c (.slice B1 v.pre.length d1) (.slice B2 v.build.length d2)):=by
  have:=At5.new (w.alloc (.cells #[u.a,u.b,u.c,.slice A1 u.pre.length c1,.slice A2 u.build.length c2] 37)) 37 v.a v.b v.c (.slice B1 v.pre.length d1) (.slice B2 v.build.length d2)
  rw [size_alloc] at this; exact this
 have R2:=Lib.hid r2
 have Q2:=Lib.hid q2
 have F2:=Lib.hid f2
 have G2:=Lib.hid g2
 have HF:Hid (fullV u v=if cmpV u v=0 then cmpRows u.build v.build else cmpV u v):=rfl
 have HC:Hid (∀ W,BelowD w.heap.size w W→Calls Tryz.prog 113 #[.agg #[u.a,u.b,u.c,.slice A1 u.pre.length c1,.slice A2 u.build.length c2],.agg #[v.a,v.b,v.c,.slice B1 v.pre.length d1,.slice B2 v.build.length d2]] W fun e w'=>e=.returned (.int .i64 (cmpV u v))∧BelowD W.heap.size W w'):=fun W hb=>compare_anyD u v A1 A2 B1 B2 c1 c2 d1 d2 W (r1.kept hb.toBelow) (q1.kept hb.toBelow) f1 g1
 clear r1 r2 q1 q2 f1 f2 g1 g2
 generalize cmpV u v=c at HF HC
 go_enter Tryz.func60,Tryz.ntmps60
 go_upto_region 1 with (fail)
 generalize ((w.alloc (.cells #[u.a,u.b,u.c,.slice A1 u.pre.length c1,.slice A2 u.build.length c2] 37)).alloc (.cells #[v.a,v.b,v.c,.slice B1 v.pre.length d1,.slice B2 v.build.length d2] 37))=W at HB0 K1 K2 ⊢
 have hz:=K2.out.1
 have hw:=HB0.out.size
 obtain ⟨_,_,x0,x1,x2,x3,x4⟩:=K1.out
 obtain ⟨_,_,y0,y1,y2,y3,y4⟩:=K2.out
 go_wp2_with fail
 refine (HC.out _ HB0.out).mono ?_
 rintro e w1 ⟨rfl,hb1⟩
 have L1:=Lib.hid (K1.out.kept hb1.toBelow (by omega))
 have L2:=Lib.hid (K2.out.kept hb1.toBelow (by omega))
 have B1':=Lib.hid (HB0.out.trans (hb1.mono hw))
 have hz1:=hb1.size
 clear hb1 x0 x1 x2 x3 x4 y0 y1 y2 y3 y4
 obtain ⟨_,_,x0,x1,x2,x3,x4⟩:=L1.out
 obtain ⟨_,_,y0,y1,y2,y3,y4⟩:=L2.out
 by_cases hc:c=0
 ·have HF2:Hid (cmpRows u.build v.build=fullV u v):=by have:=HF.out; rw [if_pos hc] at this; exact this.symm
  have KR:Hid (∀ W',W'=w1→Calls Tryz.prog 114 #[.slice A2 u.build.length c2,.slice B2 v.build.length d2] W' fun e w'=>e=.returned (.int .i64 (fullV u v))∧BelowD w1.heap.size w1 w'):=by
   rintro W' rfl; rw [← HF2.out]; exact rows_anyD A2 _ c2 u.build B2 _ d2 v.build W' (R2.out.kept B1'.out.toBelow) (Q2.out.kept B1'.out.toBelow) F2.out.1 G2.out.1 F2.out.2 G2.out.2
  subst hc
  clear HF HF2
  go_wp2_with fail
  refine (KR.out _ rfl).mono ?_
  rintro e w5 ⟨rfl,hb5⟩
  have B5:=Lib.hid (B1'.out.trans (hb5.mono (by omega)))
  clear hb5
  go_wp2
  go_ret
  exact ⟨rfl,B5.out⟩
 ·have HF2:Hid (fullV u v=c):=by have:=HF.out; rw [if_neg hc] at this; exact this
  have hn:(c == 0)=false:=by simp [hc]
  have hn2:(c != 0)=true:=by simp [hc]
  clear HF hc
  go_wp2
  go_ret
  exact ⟨by rw [HF2.out]; rfl,B1'.out⟩
end Go.Proofs.YtgakcdcfblgagaaGreatDoor.Prec
namespace Go.Proofs.YtgakcdcfblgagaaGreatDoor.Range
open Go.RowKit Num Ident Semver
mutual
def wt:Rng→Nat
 | .mk _ _ l=>1+wtL l
def wtL:List Rng→Nat
 | []=>0
 | r :: rs=>wt r+wtL rs
end
theorem wt_eq (r:Rng):wt r=1+wtL r.subs:=by cases r; rfl
theorem wtL_cons (r:Rng) (rs:List Rng):wtL (r :: rs)=wt r+wtL rs:=rfl
theorem least {p:Nat→Prop} (h:∃ n,p n):∃ m,p m∧∀ k,p k→m≤k:=by
 obtain ⟨n,hn⟩:=h
 induction n using Nat.strongRecOn with
 | _ n ih =>
  by_cases hk:∃ k,k<n∧p k
  ·obtain ⟨k,hlt,hp⟩:=hk; exact ih k hlt hp
  ·exact ⟨n,hn,fun k hp=>Nat.le_of_not_lt fun hlt=>hk ⟨k,hlt,hp⟩⟩
open Classical in
noncomputable def leastOf (p:Nat→Prop):Nat:=if h:∃ n,p n then Classical.choose (least h) else 0
theorem leastOf_at {p:Nat→Prop} (h:∃ n,p n):p (leastOf p):=by unfold leastOf; rw [dif_pos h]; exact (Classical.choose_spec (least h)).1
theorem leastOf_le {p:Nat→Prop} {k:Nat} (h:p k):leastOf p≤k:=by unfold leastOf; rw [dif_pos ⟨k,h⟩]; exact (Classical.choose_spec (least ⟨k,h⟩)).2 k h
theorem wp_scope_back_of {P:Program} {a:Act} {w:World} {Q:Exit→Act→World→Prop} {c rest:Code} (l:Nat) (J:Nat→Act→World→Prop) (hf:findLabel c l=some (Code.skip.seq rest))
  (pass:∀ m a w,J m a w→rest.wp P (Exit.jump l (fun a' w'=>∃ k,J k a' w'∧k<m) Q) a w)
  (first:Hid (∀ m a w,J m a w→rest.wp P (Exit.jump l (fun a' w'=>∃ k,J k a' w') Q) a w)→c.wp P (Exit.jump l (fun a' w'=>∃ k,J k a' w') Q) a w):(Code.scope c).wp P Q a w:=by
 refine wp_scope_back l (fun a w=>∃ k,J k a w) (fun a w=>leastOf fun k=>J k a w) hf (fun a w h=>?_) (fun H=>first fun m a w h=>H.out a w ⟨m,h⟩)
 refine wp_mono (pass _ a w (leastOf_at h)) fun e _ _ hq=>?_
 cases e <;> first
  | exact hq
  | (obtain ⟨he,k,hk,hlt⟩:=hq; exact ⟨he,⟨k,hk⟩,Nat.lt_of_le_of_lt (leastOf_le hk) hlt⟩)
end Go.Proofs.YtgakcdcfblgagaaGreatDoor.Range
namespace Go.Proofs.YtgakcdcfblgagaaGreatDoor.Semver
open Num Ident

theorem run_cat:∀ (d r:List UInt8),AllDig d→(∀ b t,r=b :: t→isDig b=false)→run (d ++ r)=d.length
 | [],r,_,h=>by
  cases r with
  | nil=>rfl
  | cons b t=>rw [List.nil_append,run,h b t rfl]; rfl
 | b :: d,r,hd,h=>by
  rw [allDig_cons] at hd
  rw [List.cons_append,run,if_pos hd.1,run_cat d r hd.2 h]; rfl
theorem parse_cat (a d r:List UInt8) (hd:isNum d=true) (hv:val d≤maxField) (hr:∀ b t,r=b :: t→isDig b=false):parse (a ++ (d ++ r)) (a.length:Int)=(val d,d.length,0):=by
 have h:=(isNum_iff d).1 hd
 have hdrop:(a ++ (d ++ r)).drop a.length=d ++ r:=by simp
 have e:=parse_at (a ++ (d ++ r)) a.length (by simp) d (by rw [hdrop,run_cat d r (all_of_run h.2.1) hr]; simp)
 rw [e,if_neg (by omega),if_neg (by rw [h.2.2]; simp),if_neg (by omega)]
theorem parse_dec (a r:List UInt8) (x:Nat) (hx:x≤maxField) (hr:∀ b t,r=b :: t→isDig b=false):parse (a ++ (Lib.decDigits x ++ r)) (a.length:Int)=(x,(Lib.decDigits x).length,0):=by
 rw [parse_cat a _ r (dec_num x) (by rw [dec_val]; exact hx) hr,dec_val]
theorem point_cat (a r:List UInt8):point (a ++ 46 :: r) a.length=0:=by
 refine point_yes (by simp) ?_
 have:=byteAt_place a (46 :: r) 0
 rw [Nat.add_zero] at this
 rw [this]; rfl
theorem core2_cat (a r:List UInt8) (x y z:Nat) (hz:z≤maxField) (hr:∀ b t,r=b :: t→isDig b=false):core2 (a ++ (Lib.decDigits z ++ r)) x y a.length=(0,a.length+(Lib.decDigits z).length,x,y,z):=by
 unfold core2
 rw [parse_dec a r z hz hr]; rfl
theorem stop46 (r:List UInt8):∀ b t,(46:UInt8) :: r=b :: t→isDig b=false:=by
 intro b t h
 injection h with h
 rw [← h]; decide
theorem core1_cat (a r:List UInt8) (x y z:Nat) (hy:y≤maxField) (hz:z≤maxField) (hr:∀ b t,r=b :: t→isDig b=false) :
  core1 (a ++ (Lib.decDigits y ++ 46 :: (Lib.decDigits z ++ r))) x a.length=(0,a.length+(Lib.decDigits y).length+1+(Lib.decDigits z).length,x,y,z):=by
 have e1:a ++ (Lib.decDigits y ++ 46 :: (Lib.decDigits z ++ r))=(a ++ Lib.decDigits y) ++ 46 :: (Lib.decDigits z ++ r):=by simp
 have e2:a ++ (Lib.decDigits y ++ 46 :: (Lib.decDigits z ++ r))=(a ++ Lib.decDigits y ++ [46]) ++ (Lib.decDigits z ++ r):=by simp
 have h1:=point_cat (a ++ Lib.decDigits y) (Lib.decDigits z ++ r)
 have h2:=core2_cat (a ++ Lib.decDigits y ++ [46]) r x y z hz hr
 rw [← e1,List.length_append] at h1
 rw [← e2] at h2
 simp only [List.length_append,List.length_singleton] at h2
 unfold core1
 rw [parse_dec a _ y hy (stop46 _)]
 simp only [ne_eq,not_true_eq_false,if_false]
 unfold after2
 rw [h1]
 simp only [ne_eq,not_true_eq_false,if_false]
 exact h2
theorem core_cat (r:List UInt8) (x y z:Nat) (hx:x≤maxField) (hy:y≤maxField) (hz:z≤maxField) (hr:∀ b t,r=b :: t→isDig b=false) :
  core (Lib.decDigits x ++ 46 :: (Lib.decDigits y ++ 46 :: (Lib.decDigits z ++ r))) 0=(0,(Lib.decDigits x).length+1+(Lib.decDigits y).length+1+(Lib.decDigits z).length,x,y,z):=by
 have e2:Lib.decDigits x ++ 46 :: (Lib.decDigits y ++ 46 :: (Lib.decDigits z ++ r))=(Lib.decDigits x ++ [46]) ++ (Lib.decDigits y ++ 46 :: (Lib.decDigits z ++ r)):=by simp
 have h0:=parse_dec [] (46 :: (Lib.decDigits y ++ 46 :: (Lib.decDigits z ++ r))) x hx (stop46 _)
 have h1:=point_cat (Lib.decDigits x) (Lib.decDigits y ++ 46 :: (Lib.decDigits z ++ r))
 have h2:=core1_cat (Lib.decDigits x ++ [46]) r x y z hy hz hr
 rw [← e2] at h2
 simp only [List.length_append,List.length_singleton] at h2
 rw [List.nil_append,List.length_nil] at h0
 unfold core
 rw [h0]
 simp only [ne_eq,not_true_eq_false,if_false,Nat.zero_add]
 unfold after1
 rw [h1]
 simp only [ne_eq,not_true_eq_false,if_false]
 exact h2

theorem go_cat {pre:Bool} (r:List UInt8) (hr:∀ b t,r=b :: t→isId b=false∧b.toNat≠46):∀ (xs:List (List UInt8)) (acc:List (List UInt8)) (n:Nat),xs≠[]→goodFrom pre xs acc.length=true→go pre (joined xs ++ r) [] acc n=(0,n+(joined xs).length,acc ++ xs)
 | [],_,_,h,_=>absurd rfl h
 | [x],acc,n,_,h=>by
  rw [goodFrom,Bool.and_eq_true,Bool.and_eq_true,beq_iff_eq,beq_iff_eq] at h
  rw [joined_one,go_ids x r [] acc n (lead_full.1 h.1.2),List.nil_append]
  cases r with
  | nil=>rw [go,shut,if_pos h.1.1]
  | cons b t=>rw [go_else (hr b t rfl).1 (hr b t rfl).2,shut,if_pos h.1.1]
 | x :: y :: s,acc,n,_,h=>by
  rw [goodFrom,Bool.and_eq_true,Bool.and_eq_true,beq_iff_eq,beq_iff_eq] at h
  have h2:goodFrom pre (y :: s) (acc ++ [x]).length=true:=by rw [List.length_append]; exact h.2
  rw [joined_cons,List.append_assoc,go_ids x _ [] acc n (lead_full.1 h.1.2),List.nil_append,List.cons_append,go_point (by decide) h.1.1,go_cat r hr (y :: s) (acc ++ [x]) _ (by simp) h2]
  simp; omega
theorem row_cat {pre:Bool} (a r:List UInt8) (xs:List (List UInt8)) (hr:∀ b t,r=b :: t→isId b=false∧b.toNat≠46) (h0:xs≠[]) (h:goodFrom pre xs 0=true):row (a ++ (joined xs ++ r)) (a.length:Int) pre=(0,(joined xs).length,xs):=by
 have hdrop:(a ++ (joined xs ++ r)).drop a.length=joined xs ++ r:=by simp
 have h1:¬ ((a.length:Int)<0∨((a ++ (joined xs ++ r)).length:Int)<(a.length:Int)):=by simp only [List.length_append]; omega
 unfold row
 rw [if_neg h1,Int.toNat_natCast,hdrop]
 have:=go_cat (pre:=pre) r hr xs [] 0 h0 h
 simpa using this
theorem rowAt_cat (a r:List UInt8) (xs:List (List UInt8)) (m:Nat) (mb:UInt8) (hm:m=mb.toNat) (hr:∀ b t,r=b :: t→isId b=false∧b.toNat≠46∧b≠mb) (h:goodFrom (m == 45) xs 0=true) :
  rowAt (a ++ (rowText mb xs ++ r)) a.length m=(0,a.length+(rowText mb xs).length,xs):=by
 by_cases h0:xs=[]
 ·subst h0
  rw [rowText_none rfl,List.nil_append]
  refine rowAt_none ?_
  cases r with
  | nil=>left; simp
  | cons b t =>
   right
   have hb:=(hr b t rfl).2.2
   have:=byteAt_place a (b :: t) 0
   rw [Nat.add_zero] at this
   rw [this,hm]
   intro e
   apply hb
   have e2:(b.toNat:Int)=(mb.toNat:Int):=e
   exact UInt8.toNat_inj.1 (by omega)
 ·have hl:xs.length≠0:=fun e=>h0 (List.eq_nil_of_length_eq_zero e)
  rw [rowText_some hl]
  have e1:a ++ ([mb] ++ joined xs ++ r)=a ++ (mb :: (joined xs ++ r)):=by simp
  have e2:a ++ ([mb] ++ joined xs ++ r)=(a ++ [mb]) ++ (joined xs ++ r):=by simp
  have hrow:=row_cat (pre:=(m == 45)) (a ++ [mb]) r xs (fun b t e=>⟨(hr b t e).1,(hr b t e).2.1⟩) h0 h
  rw [← e2,List.length_append,List.length_singleton] at hrow
  have hbyte:byteAt (a ++ ([mb] ++ joined xs ++ r)) a.length=(m:Int):=by
   have:=byteAt_place a (mb :: (joined xs ++ r)) 0
   rw [Nat.add_zero] at this
   rw [e1,this,hm]; rfl
  rw [rowAt_some (by simp) hbyte,hrow]
  simp only [List.length_append,List.length_singleton,Nat.add_assoc]

theorem rowText_stop (xs:List (List UInt8)):∀ b t,rowText 43 xs=b :: t→isId b=false∧b.toNat≠46∧b≠45:=by
 intro b t h
 unfold rowText at h
 split at h
 ·cases h
 ·injection h with h
  rw [← h]; decide
theorem rows_stop (xs ys:List (List UInt8)):∀ b t,rowText 45 xs ++ (rowText 43 ys ++ [])=b :: t→isDig b=false:=by
 intro b t h
 by_cases h0:xs.length=0
 ·rw [rowText_none h0,List.nil_append,List.append_nil] at h
  have h1:=(rowText_stop ys b t h).1
  by_cases h2:isDig b=true
  ·unfold isId at h1; rw [h2] at h1; simp at h1
  ·simpa using h2
 ·rw [rowText_some h0] at h
  simp only [List.cons_append] at h
  injection h with h
  rw [← h]; decide

theorem text_read {v:Ver} (h:goodV v=true):vread (vtext v)=(0,0,v):=by
 unfold goodV at h
 rw [Bool.and_eq_true,Bool.and_eq_true] at h
 obtain ⟨h1,h2,h3⟩:=h
 have hh:=of_decide_eq_true h1
 obtain ⟨L1,hL1⟩:∃ L,(Lib.decDigits v.a).length+1+(Lib.decDigits v.b).length+1+(Lib.decDigits v.c).length=L:=⟨_,rfl⟩
 have c1:=core_cat (rowText 45 v.pre ++ (rowText 43 v.build ++ [])) v.a v.b v.c hh.1 hh.2.1 hh.2.2 (rows_stop v.pre v.build)
 rw [hL1] at c1
 obtain ⟨a,ha⟩:∃ a,Lib.decDigits v.a ++ [46] ++ Lib.decDigits v.b ++ [46] ++ Lib.decDigits v.c=a:=⟨_,rfl⟩
 have hal:a.length=L1:=by rw [← ha,← hL1]; simp; omega
 have e0:vtext v=a ++ (rowText 45 v.pre ++ (rowText 43 v.build ++ [])):=by unfold vtext; rw [ha]; simp
 have e1:Lib.decDigits v.a ++ 46 :: (Lib.decDigits v.b ++ 46 :: (Lib.decDigits v.c ++ (rowText 45 v.pre ++ (rowText 43 v.build ++ []))))=vtext v:=by rw [e0,← ha]; simp
 have r1:=rowAt_cat a (rowText 43 v.build ++ []) v.pre 45 45 rfl (fun b t e=>rowText_stop v.build b t (by rw [List.append_nil] at e; exact e)) h2
 have e2:vtext v=(a ++ rowText 45 v.pre) ++ (rowText 43 v.build ++ []):=by rw [e0]; simp
 have r2:=rowAt_cat (a ++ rowText 45 v.pre) [] v.build 43 43 rfl (fun b t e=>by cases e) h3
 rw [e1] at c1
 rw [← e0,hal] at r1
 rw [← e2,List.length_append,hal] at r2
 have hlen:(vtext v).length=L1+(rowText 45 v.pre).length+(rowText 43 v.build).length:=by rw [e2]; simp [hal]; omega
 have hp:vparse (vtext v) 0=(0,L1+(rowText 45 v.pre).length+(rowText 43 v.build).length,v):=by
  unfold vparse
  rw [if_neg (by omega),Int.toNat_zero]
  unfold inside
  rw [c1]
  simp only [ne_eq,not_true_eq_false,if_false]
  unfold tail1
  rw [r1]
  simp only [ne_eq,not_true_eq_false,if_false]
  unfold tail2
  rw [r2]
  simp only [ne_eq,not_true_eq_false,if_false]
 unfold vread
 rw [hp]
 simp [hlen]
end Go.Proofs.YtgakcdcfblgagaaGreatDoor.Semver
