/-
  What the theorem of the last text needs of these: PrCaret, SpSweepJ. Conditions: as each theorem states.
-/
import Derived.Test.YtnpjklaaokiikaaGreatDoorPlA1
import Derived.Test.YtnpjklaaokiikaaGreatDoorPlA2
import Derived.Test.YtnpjklaaokiikaaGreatDoorPlA10
import Derived.Test.YtnpjklaaokiikaaGreatDoorPlA12
import Derived.Test.YtnpjklaaokiikaaGreatDoorPlA13
import Derived.StillTailTactics
import Derived.Deep.RegionHeld3
set_option maxRecDepth 100000
set_option maxHeartbeats 25600000
namespace Go.Proofs.YtnpjklaaokiikaaGreatDoor.Prec
open Go.RowKit Num Ident Semver

theorem EndPost.of_none {w:World} {e:Ending} {w':World} (h:NoneZ w e w'):EndPost w none e w':=by
 obtain ⟨rfl,hb⟩:=h
 exact ⟨none,0,rfl,SRow.none_ _ _,rfl,hb⟩
theorem EndPost.of_end {w:World} {x y z:Nat} {p q r:Int} {e:Ending} {w':World} (h:EndZ w p q r e w') (hp:p=(x:Int)) (hq:q=(y:Int)) (hr:r=(z:Int)):EndPost w (some (firstV x y z)) e w':=by
 subst hp hq hr
 obtain ⟨A,rfl,h1,hb⟩:=h
 exact ⟨A,1,rfl,h1,rfl,hb⟩
theorem end_0_no {x y z:Nat} (h:(9223372036854775807:Int)≤(x:Int)):endV x y z 0=none:=by unfold endV; rw [if_pos rfl,if_pos (by omega)]
theorem end_0_yes {x y z:Nat} (h:(x:Int)<9223372036854775807):endV x y z 0=some (firstV (x+1) 0 0):=by unfold endV; rw [if_pos rfl,if_neg (by omega)]
theorem end_1_no {x y z:Nat} (h:(9223372036854775807:Int)≤(y:Int)):endV x y z 1=none:=by unfold endV; rw [if_neg (by omega),if_pos rfl,if_pos (by omega)]
theorem end_1_yes {x y z:Nat} (h:(y:Int)<9223372036854775807):endV x y z 1=some (firstV x (y+1) 0):=by unfold endV; rw [if_neg (by omega),if_pos rfl,if_neg (by omega)]
theorem end_2_no {x y z:Nat} (h:(9223372036854775807:Int)≤(z:Int)):endV x y z 2=none:=by unfold endV; rw [if_neg (by omega),if_neg (by omega),if_pos (by omega)]
theorem end_2_yes {x y z:Nat} (h:(z:Int)<9223372036854775807):endV x y z 2=some (firstV x y (z+1)):=by unfold endV; rw [if_neg (by omega),if_neg (by omega),if_neg (by omega)]
theorem endAt_0 (x y z:Nat) (w:World):Calls Tryz.prog 252 #[.agg #[.int .u64 x,.int .u64 y,.int .u64 z],.int .i64 0] w (EndPost w (endV x y z 0)):=by
 by_cases h:(9223372036854775807:Int)≤(x:Int)
 ·rw [end_0_no h]
  exact (endNo0 x y z w h).mono fun e w' hk=>EndPost.of_none hk
 ·rw [end_0_yes (by omega)]
  exact (endAt0 x y z w (by omega) (by omega)).mono fun e w' hk=>EndPost.of_end hk (by omega) (by omega) (by omega)
theorem endAt_1 (x y z:Nat) (w:World):Calls Tryz.prog 252 #[.agg #[.int .u64 x,.int .u64 y,.int .u64 z],.int .i64 1] w (EndPost w (endV x y z 1)):=by
 by_cases h:(9223372036854775807:Int)≤(y:Int)
 ·rw [end_1_no h]
  exact (endNo1 x y z w h).mono fun e w' hk=>EndPost.of_none hk
 ·rw [end_1_yes (by omega)]
  exact (endAt1 x y z w (by omega) (by omega)).mono fun e w' hk=>EndPost.of_end hk (by omega) (by omega) (by omega)
theorem endAt_2 (x y z:Nat) (w:World):Calls Tryz.prog 252 #[.agg #[.int .u64 x,.int .u64 y,.int .u64 z],.int .i64 2] w (EndPost w (endV x y z 2)):=by
 by_cases h:(9223372036854775807:Int)≤(z:Int)
 ·rw [end_2_no h]
  exact (endNo2 x y z w h).mono fun e w' hk=>EndPost.of_none hk
 ·rw [end_2_yes (by omega)]
  exact (endAt2 x y z w (by omega) (by omega)).mono fun e w' hk=>EndPost.of_end hk (by omega) (by omega) (by omega)
def EndIs (w:World) (x:Ver) (s:Bool) (e:Ending) (w':World):Prop :=
 ∃ A' c',e=.returned (.tuple #[.agg #[x.a,x.b,x.c,.slice A' x.pre.length c',.slice none x.build.length 0],.bool s])∧SRow w' A' x.pre.length x.pre∧x.build=[]∧Below w.heap.size w w'

theorem tilde_any (v:Ver) (A:Option Addr) (c:Nat) (B:Option Addr) (d:Nat) (w:World) :
  Calls Tryz.prog 228 #[.agg #[v.a,v.b,v.c,.slice A v.pre.length c,.slice B v.build.length d]] w (EndPost w (tildeV v)):=by
 have HB0:Hid (Below w.heap.size w ((w.alloc (.cells #[v.a,v.b,v.c,.slice A v.pre.length c,.slice B v.build.length d] 34)).alloc false)):=((Below.refl _ _).alloc (Nat.le_refl _) _).alloc (by simp) _
 have K1:Hid (At5 ((w.alloc (.cells #[v.a,v.b,v.c,.slice A v.pre.length c,.slice B v.build.length d] 34)).alloc false) w.heap.size v.a v.b v.c (.slice A v.pre.length c) (.slice B v.build.length d)):=(At5.new w 34 _ _ _ _ _).kept ((Below.refl _ _).alloc (Nat.le_refl _) _) (by simp)
 have K2:Hid (At5 ((w.alloc (.cells #[v.a,v.b,v.c,.slice A v.pre.length c,.slice B v.build.length d] 34)).alloc false) (w.heap.size+1) (.int .u64 0) (.int .u64 0) (.int .u64 0) (.slice none 0 0) (.slice none 0 0)):=by
  have:=At5.new (w.alloc (.cells #[v.a,v.b,v.c,.slice A v.pre.length c,.slice B v.build.length d] 34)) 34 (.int .u64 0) (.int .u64 0) (.int .u64 0) (.slice none 0 0) (.slice none 0 0)
  rw [size_alloc] at this; exact this
 have HE:Hid (∀ W,Calls Tryz.prog 252 #[.agg #[v.a,v.b,v.c],.int .i64 1] W (EndPost W (tildeV v))):=fun W=>endAt_1 v.a v.b v.c W
 generalize tildeV v=o at HE ⊢
 have HP':Hid (∀ e w',EndIs w (verOf o) o.isSome e w'→EndPost w o e w'):=fun _ _ h=>h
 go_enter Tryz.func228,Tryz.ntmps228
 go_upto_region 1 with (fail)
 generalize ((w.alloc (.cells #[v.a,v.b,v.c,.slice A v.pre.length c,.slice B v.build.length d] 34)).alloc false)=W at HB0 K1 K2 ⊢
 obtain ⟨hz0,_,x0,x1,x2,x3,x4⟩:=K1.out
 obtain ⟨hz1,_,y0,y1,y2,y3,y4⟩:=K2.out
 go_wp2_with fail
 refine (coreOf_any _ _ _ _ _ _).mono ?_
 rintro e w2 ⟨rfl,hb2⟩
 have L2:=Lib.hid (K2.out.kept hb2 hz1)
 have B1:=Lib.hid (HB0.out.trans (hb2.mono (by omega)))
 have hz2:=L2.out.1
 clear hb2 x0 x1 x2 x3 x4 y0 y1 y2 y3 y4
 obtain ⟨_,_,y0,y1,y2,y3,y4⟩:=L2.out
 go_wp2_with fail
 refine (HE.out _).mono ?_
 rintro e w3 ⟨A',c',rfl,hr,hbu,hb3⟩
 have HU:=Lib.hid hbu
 generalize verOf o=x at hr HU HP' ⊢
 generalize o.isSome=s at HP' ⊢
 have N2:=Lib.hid (L2.out.kept hb3 hz2)
 have B3:=Lib.hid (B1.out.trans (hb3.mono (by omega)))
 obtain ⟨hz3,hf,g0,g1,g2,g3,g4⟩:=N2.out
 have R:=Lib.hid (hr.set5 g0 g1 g2 g3 g4 (by simp) (by simp) (by simp) (by simp) (by simp) x.a x.b x.c (.slice A' x.pre.length c') (.slice none x.build.length 0))
 have B4:Hid (Below w.heap.size w (set5 w3 (w.heap.size+1) x.a x.b x.c (.slice A' x.pre.length c') (.slice none x.build.length 0))):=(((((B3.out.setCell (by simp) _).setCell (by simp) _).setCell (by simp) _).setCell (by simp) _).setCell (by simp) _)
 have N3:=Lib.hid (N2.out.set5 x.a x.b x.c (.slice A' x.pre.length c') (.slice none x.build.length 0))
 clear hr hb3
 unfold set5 at B4 N3
 go_wp2
 generalize (((((w3.setCell ⟨w.heap.size+1,0,none⟩ x.a).setCell ⟨w.heap.size+1,1,none⟩ x.b).setCell ⟨w.heap.size+1,2,none⟩ x.c).setCell ⟨w.heap.size+1,3,none⟩ (.slice A' x.pre.length c')).setCell ⟨w.heap.size+1,4,none⟩ (.slice none x.build.length 0))=w4 at R B4 N3 ⊢
 obtain ⟨_,_,z0,z1,z2,z3,z4⟩:=N3.out
 exact bodyPost_ret (v:=.tuple #[.agg #[x.a,x.b,x.c,.slice A' x.pre.length c',.slice none x.build.length 0],.bool s]) (by simp [results,Tryz.results228,go_sem,z0,z1,z2,z3,z4]) rfl (HP'.out _ _ ⟨A',c',rfl,R.out,HU.out,B4.out⟩)

def CaretAt (v:Ver) (i:Nat):Prop:=i=0∨(i=1∧v.a=0)∨(i=2∧v.a=0∧v.b=0)
def CaretJ (w:World) (v:Ver) (A:Option Addr) (c:Nat) (B:Option Addr) (d:Nat) (a':Act) (w':World):Prop :=
 ∃ (i b:Nat) (u6 u7 u8 u9 u10 u11 u12 u13 u14 u15 u16 u17 u18 u19 u20 u21 u22:Value),Below w.heap.size w w'∧At5 w' (w.heap.size+1) (.int .u64 0) (.int .u64 0) (.int .u64 0) (.slice none 0 0) (.slice none 0 0)∧At3 w' b v.a v.b v.c∧CaretAt v i ∧
  a'={ tmps:=#[.agg #[v.a,v.b,v.c,.slice A v.pre.length c,.slice B v.build.length d],.pointer (some ⟨w.heap.size,0,none⟩),.pointer (some ⟨w.heap.size+1,0,none⟩),.bool false,.pointer (some ⟨b,0,none⟩),.int .i64 i,u6,u7,u8,u9,u10,u11,u12,u13,u14,u15,u16,u17,u18,u19,u20,u21,u22],defers:=[] }
def CaretM (a':Act) (_:World):Nat:=3 - (intOf (a'.tmps.getD 5 undef)).toNat
theorem caret_0 {v:Ver} (h:v.a≠0):caretV v=endV v.a v.b v.c 0:=by unfold caretV placeV; rw [if_pos h]
theorem caret_1 {v:Ver} (h:v.a=0) (h2:v.b≠0):caretV v=endV v.a v.b v.c 1:=by unfold caretV placeV; rw [if_neg (by omega),if_pos h2]
theorem caret_2 {v:Ver} (h:v.a=0) (h2:v.b=0):caretV v=endV v.a v.b v.c 2:=by unfold caretV placeV; rw [if_neg (by omega),if_neg (by omega)]
theorem beq0_no {x:Nat} (h:x≠0):((x:Int) == 0)=false:=by simp; omega
theorem beq0_yes {x:Nat} (h:x=0):((x:Int) == 0)=true:=by simp [h]

theorem caret_any (v:Ver) (A:Option Addr) (c:Nat) (B:Option Addr) (d:Nat) (w:World) :
  Calls Tryz.prog 227 #[.agg #[v.a,v.b,v.c,.slice A v.pre.length c,.slice B v.build.length d]] w (EndPost w (caretV v)):=by
 have HB0:Hid (Below w.heap.size w ((w.alloc (.cells #[v.a,v.b,v.c,.slice A v.pre.length c,.slice B v.build.length d] 34)).alloc false)):=((Below.refl _ _).alloc (Nat.le_refl _) _).alloc (by simp) _
 have K1:Hid (At5 ((w.alloc (.cells #[v.a,v.b,v.c,.slice A v.pre.length c,.slice B v.build.length d] 34)).alloc false) w.heap.size v.a v.b v.c (.slice A v.pre.length c) (.slice B v.build.length d)):=(At5.new w 34 _ _ _ _ _).kept ((Below.refl _ _).alloc (Nat.le_refl _) _) (by simp)
 have K2:Hid (At5 ((w.alloc (.cells #[v.a,v.b,v.c,.slice A v.pre.length c,.slice B v.build.length d] 34)).alloc false) (w.heap.size+1) (.int .u64 0) (.int .u64 0) (.int .u64 0) (.slice none 0 0) (.slice none 0 0)):=by
  have:=At5.new (w.alloc (.cells #[v.a,v.b,v.c,.slice A v.pre.length c,.slice B v.build.length d] 34)) 34 (.int .u64 0) (.int .u64 0) (.int .u64 0) (.slice none 0 0) (.slice none 0 0)
  rw [size_alloc] at this; exact this
 obtain ⟨o,ho⟩:∃ o,caretV v=o:=⟨_,rfl⟩
 have HO:=Lib.hid ho
 rw [ho]
 clear ho
 have HP':Hid (∀ e w',EndIs w (verOf o) o.isSome e w'→EndPost w o e w'):=fun _ _ h=>h
 go_enter Tryz.func227,Tryz.ntmps227
 go_wp2_with fail
 refine wp_scope_back 0 (CaretJ w v A c B d) CaretM rfl ?_ ?_
 ·rintro a' w1 ⟨i,b,u6,u7,u8,u9,u10,u11,u12,u13,u14,u15,u16,u17,u18,u19,u20,u21,u22,hb1,k2,k3,hat,rfl⟩
  have B1:=Lib.hid hb1
  have L2:=Lib.hid k2
  have L3:=Lib.hid k3
  have hz2:=k2.1
  have hz3':=k3.1
  clear hb1
  obtain ⟨_,_,x0,x1,x2⟩:=k3
  obtain ⟨_,_,y0,y1,y2,y3,y4⟩:=k2
  clear HB0 K1 K2
  rcases hat with rfl | ⟨rfl,h1⟩ | ⟨rfl,h1,h2⟩
  ·by_cases h:v.a=0
   ·have e1:=beq0_yes h
    have HH:=Lib.hid h
    clear h
    go_wp2
    go_step3
    refine ⟨rfl,⟨1,b,_,_,_,_,_,_,_,_,_,_,_,_,_,_,_,_,_,B1.out,L2.out,L3.out,.inr (.inl ⟨rfl,HH.out⟩),rfl⟩,?_⟩
    simp [CaretM,intOf]
   ·have HE:Hid (∀ W,Calls Tryz.prog 252 #[.agg #[v.a,v.b,v.c],.int .i64 0] W (EndPost W o)):=fun W=>by
     have k:=endAt_0 v.a v.b v.c W
     rw [← caret_0 h,HO.out] at k
     exact k
    have e1:=beq0_no h
    clear h
    go_wp2_with fail
    refine (HE.out _).mono ?_
    rintro e w3 ⟨A',c',rfl,hr,hbu,hb3⟩
    have HU:=Lib.hid hbu
    generalize verOf o=x at hr HU HP' ⊢
    generalize o.isSome=s at HP' ⊢
    have N2:=Lib.hid (L2.out.kept hb3 hz2)
    have B3:=Lib.hid (B1.out.trans (hb3.mono (by omega)))
    obtain ⟨hz3,hf,g0,g1,g2,g3,g4⟩:=N2.out
    have R:=Lib.hid (hr.set5 g0 g1 g2 g3 g4 (by simp) (by simp) (by simp) (by simp) (by simp) x.a x.b x.c (.slice A' x.pre.length c') (.slice none x.build.length 0))
    have B4:Hid (Below w.heap.size w (set5 w3 (w.heap.size+1) x.a x.b x.c (.slice A' x.pre.length c') (.slice none x.build.length 0))):=(((((B3.out.setCell (by simp) _).setCell (by simp) _).setCell (by simp) _).setCell (by simp) _).setCell (by simp) _)
    have N3:=Lib.hid (N2.out.set5 x.a x.b x.c (.slice A' x.pre.length c') (.slice none x.build.length 0))
    clear hr hb3
    unfold set5 at B4 N3
    go_wp2
    simp only [Exit.jump]
    generalize (((((w3.setCell ⟨w.heap.size+1,0,none⟩ x.a).setCell ⟨w.heap.size+1,1,none⟩ x.b).setCell ⟨w.heap.size+1,2,none⟩ x.c).setCell ⟨w.heap.size+1,3,none⟩ (.slice A' x.pre.length c')).setCell ⟨w.heap.size+1,4,none⟩ (.slice none x.build.length 0))=w4 at R B4 N3 ⊢
    obtain ⟨_,_,z0,z1,z2,z3,z4⟩:=N3.out
    exact bodyPost_ret (v:=.tuple #[.agg #[x.a,x.b,x.c,.slice A' x.pre.length c',.slice none x.build.length 0],.bool s]) (by simp [results,Tryz.results227,go_sem,z0,z1,z2,z3,z4]) rfl (HP'.out _ _ ⟨A',c',rfl,R.out,HU.out,B4.out⟩)
  ·have H1:=Lib.hid h1
   clear h1
   by_cases h:v.b=0
   ·have e1:=beq0_yes h
    have HH:=Lib.hid h
    clear h
    go_wp2
    go_step3
    refine ⟨rfl,⟨2,b,_,_,_,_,_,_,_,_,_,_,_,_,_,_,_,_,_,B1.out,L2.out,L3.out,.inr (.inr ⟨rfl,H1.out,HH.out⟩),rfl⟩,?_⟩
    simp [CaretM,intOf]
   ·have HE:Hid (∀ W,Calls Tryz.prog 252 #[.agg #[v.a,v.b,v.c],.int .i64 1] W (EndPost W o)):=fun W=>by
     have k:=endAt_1 v.a v.b v.c W
     rw [← caret_1 H1.out h,HO.out] at k
     exact k
    have e1:=beq0_no h
    clear h
    go_wp2_with fail
    refine (HE.out _).mono ?_
    rintro e w3 ⟨A',c',rfl,hr,hbu,hb3⟩
    have HU:=Lib.hid hbu
    generalize verOf o=x at hr HU HP' ⊢
    generalize o.isSome=s at HP' ⊢
    have N2:=Lib.hid (L2.out.kept hb3 hz2)
    have B3:=Lib.hid (B1.out.trans (hb3.mono (by omega)))
    obtain ⟨hz3,hf,g0,g1,g2,g3,g4⟩:=N2.out
    have R:=Lib.hid (hr.set5 g0 g1 g2 g3 g4 (by simp) (by simp) (by simp) (by simp) (by simp) x.a x.b x.c (.slice A' x.pre.length c') (.slice none x.build.length 0))
    have B4:Hid (Below w.heap.size w (set5 w3 (w.heap.size+1) x.a x.b x.c (.slice A' x.pre.length c') (.slice none x.build.length 0))):=(((((B3.out.setCell (by simp) _).setCell (by simp) _).setCell (by simp) _).setCell (by simp) _).setCell (by simp) _)
    have N3:=Lib.hid (N2.out.set5 x.a x.b x.c (.slice A' x.pre.length c') (.slice none x.build.length 0))
    clear hr hb3
    unfold set5 at B4 N3
    go_wp2
    simp only [Exit.jump]
    generalize (((((w3.setCell ⟨w.heap.size+1,0,none⟩ x.a).setCell ⟨w.heap.size+1,1,none⟩ x.b).setCell ⟨w.heap.size+1,2,none⟩ x.c).setCell ⟨w.heap.size+1,3,none⟩ (.slice A' x.pre.length c')).setCell ⟨w.heap.size+1,4,none⟩ (.slice none x.build.length 0))=w4 at R B4 N3 ⊢
    obtain ⟨_,_,z0,z1,z2,z3,z4⟩:=N3.out
    exact bodyPost_ret (v:=.tuple #[.agg #[x.a,x.b,x.c,.slice A' x.pre.length c',.slice none x.build.length 0],.bool s]) (by simp [results,Tryz.results227,go_sem,z0,z1,z2,z3,z4]) rfl (HP'.out _ _ ⟨A',c',rfl,R.out,HU.out,B4.out⟩)
  ·have H1:=Lib.hid h1
   have H2:=Lib.hid h2
   clear h1 h2
   have HE:Hid (∀ W,Calls Tryz.prog 252 #[.agg #[v.a,v.b,v.c],.int .i64 2] W (EndPost W o)):=fun W=>by
    have k:=endAt_2 v.a v.b v.c W
    rw [← caret_2 H1.out H2.out,HO.out] at k
    exact k
   go_wp2_with fail
   refine (HE.out _).mono ?_
   rintro e w3 ⟨A',c',rfl,hr,hbu,hb3⟩
   have HU:=Lib.hid hbu
   generalize verOf o=x at hr HU HP' ⊢
   generalize o.isSome=s at HP' ⊢
   have N2:=Lib.hid (L2.out.kept hb3 hz2)
   have B3:=Lib.hid (B1.out.trans (hb3.mono (by omega)))
   obtain ⟨hz3,hf,g0,g1,g2,g3,g4⟩:=N2.out
   have R:=Lib.hid (hr.set5 g0 g1 g2 g3 g4 (by simp) (by simp) (by simp) (by simp) (by simp) x.a x.b x.c (.slice A' x.pre.length c') (.slice none x.build.length 0))
   have B4:Hid (Below w.heap.size w (set5 w3 (w.heap.size+1) x.a x.b x.c (.slice A' x.pre.length c') (.slice none x.build.length 0))):=(((((B3.out.setCell (by simp) _).setCell (by simp) _).setCell (by simp) _).setCell (by simp) _).setCell (by simp) _)
   have N3:=Lib.hid (N2.out.set5 x.a x.b x.c (.slice A' x.pre.length c') (.slice none x.build.length 0))
   clear hr hb3
   unfold set5 at B4 N3
   go_wp2
   simp only [Exit.jump]
   generalize (((((w3.setCell ⟨w.heap.size+1,0,none⟩ x.a).setCell ⟨w.heap.size+1,1,none⟩ x.b).setCell ⟨w.heap.size+1,2,none⟩ x.c).setCell ⟨w.heap.size+1,3,none⟩ (.slice A' x.pre.length c')).setCell ⟨w.heap.size+1,4,none⟩ (.slice none x.build.length 0))=w4 at R B4 N3 ⊢
   obtain ⟨_,_,z0,z1,z2,z3,z4⟩:=N3.out
   exact bodyPost_ret (v:=.tuple #[.agg #[x.a,x.b,x.c,.slice A' x.pre.length c',.slice none x.build.length 0],.bool s]) (by simp [results,Tryz.results227,go_sem,z0,z1,z2,z3,z4]) rfl (HP'.out _ _ ⟨A',c',rfl,R.out,HU.out,B4.out⟩)
 ·intro HP
  go_upto_region 1 with (fail)
  generalize ((w.alloc (.cells #[v.a,v.b,v.c,.slice A v.pre.length c,.slice B v.build.length d] 34)).alloc false)=W at HB0 K1 K2 ⊢
  obtain ⟨hz0,_,x0,x1,x2,x3,x4⟩:=K1.out
  obtain ⟨hz1,_,y0,y1,y2,y3,y4⟩:=K2.out
  go_wp2_with fail
  refine (coreOf_any _ _ _ _ _ _).mono ?_
  rintro e w2 ⟨rfl,hb2⟩
  have L2:=Lib.hid (K2.out.kept hb2 hz1)
  have B1:=Lib.hid (HB0.out.trans (hb2.mono (by omega)))
  have hz2:=L2.out.1
  have M2:=Lib.hid (L2.out.kept ((Below.refl w2.heap.size w2).alloc (Nat.le_refl _) (.cells #[v.a,v.b,v.c] 248)) hz2)
  have M3:=Lib.hid (At3.new w2 248 v.a v.b v.c)
  have B2:Hid (Below w.heap.size w (w2.alloc (.cells #[v.a,v.b,v.c] 248))):=B1.out.alloc (by omega) _
  clear hb2 x0 x1 x2 x3 x4 y0 y1 y2 y3 y4
  go_wp2
  go_step3
  rename_i hK
  exact hK _ _ (HP.out _ _ ⟨0,w2.heap.size,_,_,_,_,_,_,_,_,_,_,_,_,_,_,_,_,_,B2.out,M2.out,M3.out,.inl rfl,rfl⟩)
end Go.Proofs.YtnpjklaaokiikaaGreatDoor.Prec
namespace Go.Proofs.YtnpjklaaokiikaaGreatDoor.Span
open Go.RowKit Num Ident Semver Prec

structure SwFix (w1:World) (re0:List REdge) (A:Option Addr) (n mb:Nat) (m:Int) (ws:World) (re:List REdge):Prop where
 perm:re.Perm re0
 sorted:re.Pairwise fun x y=>stand x.cut.cut y.cut.cut≤0
 len:re.length=n
 small:n≤100000
 lies:∀ e ∈ re,Lies w1 e.cut
 right:∀ e ∈ re,right e.cut.cut=true
 step:∀ e ∈ re,-10≤e.step∧e.step≤10
 cells:0<n→∃ g,A=some ⟨g,0,none⟩∧g<ws.heap.size∧∀ j,j<n→∀ i u,(re.getD j default).vals[i]?=some u→ws.cell? ⟨g,0+j * 7+i,none⟩=some u
 mbl:mb<ws.heap.size
 mbc:ws.cell? ⟨mb,0,none⟩=some (.int .i64 m)
 old:Below w1.heap.size w1 ws
structure SwAt (w1 ws:World) (n i:Nat) (T:Int) (set:Value) (out:List RSp) (lo:RCut) (W:World):Prop where
 bel:Below ws.heap.size ws W
 lob:At6B W ws.heap.size lo.kind lo.v.a lo.v.b lo.v.c (.slice lo.A lo.v.pre.length lo.c) (.slice lo.B lo.v.build.length lo.d)
 own:W.ownsRow (ws.heap.size+1) 190 12 set out.length (out.flatMap RSp.vals)
 cuts:∀ s ∈ out,OwnC W (ws.heap.size+1) s.lo∧OwnC W (ws.heap.size+1) s.hi
 lies:Lies w1 lo
 bare:bare lo.v=lo.v
 few:lo.v.pre.length≤16
 len:out.length≤i
 lo10:-(10 * (i:Int))≤T
 hi10:T≤10 * (i:Int)
 ile:i≤n
theorem own_set6 {w:World} {B:Nat} {e:TypeId} {size:Nat} {v:Value} {n:Nat} {xs:List Value} (h:w.ownsRow B e size v n xs) {b:Nat} (hb:b<B) (v0 v1 v2 v3 v4 v5:Value):(Span.set6 w b v0 v1 v2 v3 v4 v5).ownsRow B e size v n xs :=
 ownsRow_setCell_below (ownsRow_setCell_below (ownsRow_setCell_below (ownsRow_setCell_below (ownsRow_setCell_below (ownsRow_setCell_below h (a:=⟨b,0,none⟩) hb v0) (a:=⟨b,1,none⟩) hb v1) (a:=⟨b,2,none⟩) hb v2) (a:=⟨b,3,none⟩) hb v3) (a:=⟨b,4,none⟩) hb v4) (a:=⟨b,5,none⟩) hb v5
theorem SwAt.kept {w1 ws:World} {n i:Nat} {T:Int} {set:Value} {out:List RSp} {lo:RCut} {W W':World} (h:SwAt w1 ws n i T set out lo W) (hb:Below W.heap.size W W'):SwAt w1 ws n i T set out lo W' :=
 {h with bel:=h.bel.trans (hb.mono h.bel.size),lob:=h.lob.kept hb h.lob.1,own:=own_below h.own hb,cuts:=fun s hs=>⟨(h.cuts s hs).1.kept hb,(h.cuts s hs).2.kept hb⟩ }
theorem At6B.drew {W:World} {b:Nat} {u0 u1 u2 u3 u4 u5:Value} (h:At6B W b u0 u1 u2 u3 u4 u5):At6B W.drew b u0 u1 u2 u3 u4 u5:=h
theorem region_append_sp {yl:Nat→Option Bool} {o:Oper} {a:Act} {w w':World} {K:Act→World→Prop} {Q:Exit→Act→World→Prop} {v v':Value} {y:Value} (hw:Region.wanted o yl=true) (s x:Operand)
  (ho:o.op=.call { callee:=.builtin .append,args:=#[s,x],argTypes:=#[122,122] }) (hs:a.eval s=v) (hx:a.eval x=y)
  (hrun:(Builtin.append_ #[122,122] o.type #[v,y]).run Tryz.prog w=.ok v' w') (h:K (a.put o.dst v') w'):if Region.wanted o yl=true then Oper.wp Tryz.prog o a w K Q else K (a.put o.dst undef) w:=by
 rw [if_pos hw]
 unfold Oper.wp execOp
 simp only [ho,resolve,invoke,builtin,Sem.run_bind,Sem.run_pure,Result.andThen_ok,List.map_toArray,List.map_cons,List.map_nil,hs,hx,hrun]
 exact h
theorem SwAt.setlo {w1 ws:World} {n i:Nat} {T:Int} {set:Value} {out:List RSp} {lo:RCut} {W:World} (h:SwAt w1 ws n i T set out lo W) (cu:RCut) (hl:Lies w1 cu) (hr:Span.right cu.cut=true):SwAt w1 ws n i T set out cu (Span.set6 W ws.heap.size cu.kind cu.v.a cu.v.b cu.v.c (.slice cu.A cu.v.pre.length cu.c) (.slice cu.B cu.v.build.length cu.d)) :=
 {h with bel:=below_set6 h.bel (Nat.le_refl _) _ _ _ _ _ _,lob:=h.lob.set6 _ _ _ _ _ _,own:=own_set6 h.own (Nat.lt_succ_self _) _ _ _ _ _ _,cuts:=fun s hs=>⟨(h.cuts s hs).1.set6 (Nat.lt_succ_self _) _ _ _ _ _ _,(h.cuts s hs).2.set6 (Nat.lt_succ_self _) _ _ _ _ _ _⟩,lies:=hl,bare:=right_bare hr,few:=(right_few hr).1 }
theorem SwAt.step {w1 ws:World} {n i:Nat} {T:Int} {set:Value} {out:List RSp} {lo:RCut} {W:World} (h:SwAt w1 ws n i T set out lo W) {d:Int} (h1:-10≤d) (h2:d≤10) (hi:i<n):SwAt w1 ws n (i+1) (T+d) set out lo W :=
 {h with len:=Nat.le_succ_of_le h.len,lo10:=by have:=h.lo10; omega,hi10:=by have:=h.hi10; omega,ile:=hi }
def Tag (W:World) (b:Nat):Prop:=∃ C,W.heap[b]?=some (.cells C 187 (0,0))
theorem Tag.kept {W W':World} {b B:Nat} (h:Tag W b) (hb:Below B W W') (hB:b<B):Tag W' b:=by
 obtain ⟨C,hC⟩:=h
 exact ⟨C,(hb.block b hB).trans hC⟩
theorem Tag.new (W:World) (C:Array Value):Tag (W.alloc (.cells C 187)) W.heap.size:=⟨C,by show (W.heap.push _)[W.heap.size]?=_; simp⟩
theorem Tag.apart {W:World} {b B:Nat} {set:Value} {n:Nat} {xs:List Value} (h:Tag W b) (ho:W.ownsRow B 190 12 set n xs):some b≠set.ownBlock:=by
 obtain ⟨C,hC⟩:=h
 rcases ho.2 with ⟨rfl,_⟩ | ⟨g,cap,cur,rfl,_,hg,_⟩
 ·intro h; cases h
 ·intro h
  have e:b=g:=by simpa [Value.ownBlock] using h
  subst e
  rw [hC] at hg
  injection hg with hg
  injection hg with _ h
  exact absurd h (by decide)
theorem At6B.grown {w w':World} {row:Option Nat} {b:Nat} {u0 u1 u2 u3 u4 u5:Value} (h:At6B w b u0 u1 u2 u3 u4 u5) (hg:w.grownBy w' row) (hne:some b≠row):At6B w' b u0 u1 u2 u3 u4 u5:=by
 obtain ⟨h1,h2,c0,c1,c2,c3,c4,c5⟩:=h
 have k:w'.heap[b]?=w.heap[b]?:=hg.block b h1 hne
 exact ⟨Nat.lt_of_lt_of_le h1 hg.size,fun o=>(World.frozen?_of_block (w:=w) (a:=⟨b,o,none⟩) k).trans (h2 o),(World.cell?_of_block (w:=w) (a:=⟨b,0,none⟩) k).trans c0,(World.cell?_of_block (w:=w) (a:=⟨b,1,none⟩) k).trans c1,(World.cell?_of_block (w:=w) (a:=⟨b,2,none⟩) k).trans c2,(World.cell?_of_block (w:=w) (a:=⟨b,3,none⟩) k).trans c3,(World.cell?_of_block (w:=w) (a:=⟨b,4,none⟩) k).trans c4,(World.cell?_of_block (w:=w) (a:=⟨b,5,none⟩) k).trans c5⟩
theorem SwAt.more {w1 ws:World} {n i:Nat} {T:Int} {set:Value} {out:List RSp} {lo:RCut} {W w7 w8:World} {v8:Value} {s:RSp} (h:SwAt w1 ws n i T set out lo W) (hb:Below W.heap.size W w7) (hl:OwnC w7 (ws.heap.size+1) s.lo) (hh:OwnC w7 (ws.heap.size+1) s.hi) (hg:w7.grownBy w8 set.ownBlock)
  (ho:w8.ownsRow (ws.heap.size+1) 190 12 v8 (out.length+1) ((out ++ [s]).flatMap RSp.vals)) (hi:out.length+1≤i):SwAt w1 ws n i T v8 (out ++ [s]) lo w8 :=
 have o7:=own_below h.own hb
 have b8:Below (ws.heap.size+1) W w8:=(hb.mono h.lob.1).grown hg (Nat.le_trans h.lob.1 hb.size) (fun k hk=>(h.own.lt k hk).1)
 {bel:=h.bel.trans (b8.mono (Nat.le_succ _)),lob:=h.lob.kept b8 (Nat.lt_succ_self _),own:=by rw [List.length_append]; exact ho,
  cuts:=fun x hx=>by
   rcases List.mem_append.1 hx with hx | hx
   ·exact ⟨((h.cuts x hx).1.kept hb).grown o7 hg,((h.cuts x hx).2.kept hb).grown o7 hg⟩
   ·rw [List.mem_singleton] at hx; subst hx; exact ⟨hl.grown o7 hg,hh.grown o7 hg⟩,
  lies:=h.lies,bare:=h.bare,few:=h.few,len:=by rw [List.length_append]; exact hi,lo10:=h.lo10,hi10:=h.hi10,ile:=h.ile }
def SwJ0 (w1:World) (re0:List REdge) (A:Option Addr) (n c mb:Nat) (m:Int) (a':Act) (W:World):Prop :=
 ∃ (ws:World) (re:List REdge) (i:Nat) (T:Int) (set:Value) (out:List RSp) (lo:RCut) (u9 u10 u11 u14 u15 u16 u17 u18 u19 u20 u21 u22 u23 u24 u25 u26 u27 u28 u29 u30 u31 u32 u33 u34 u35 u36 u37 u38 u39 u40 u41 u42 u43 u44 u45 u46 u47 u48 u49 u50 u51 u52 u53 u54 u55 u56 u57 u58 u59 u60 u61 u62 u63 u64 u65 u66 u67 u68 u69 u70 u71 u72 u73:Value),SwFix w1 re0 A n mb m ws re∧SwAt w1 ws n i T set out lo W ∧
  sweepL m (re.map REdge.edge)=out.map RSp.sp ++ nextL m T lo.cut ((re.drop i).map REdge.edge)∧a'={ tmps:=#[.slice A n c,.func (.func 251) #[] #[.pointer (some ⟨mb,0,none⟩)],undef,undef,.slice none 0 0,set,.pointer (some ⟨ws.heap.size,0,none⟩),.int .i64 i,.int .i64 T,u9,u10,u11,.slice A n c,.tuple #[],u14,u15,u16,u17,u18,u19,u20,u21,u22,u23,u24,u25,u26,u27,u28,u29,u30,u31,u32,u33,u34,u35,u36,u37,u38,u39,u40,u41,u42,u43,u44,u45,u46,u47,u48,u49,u50,u51,u52,u53,u54,u55,u56,u57,u58,u59,u60,u61,u62,u63,u64,u65,u66,u67,u68,u69,u70,u71,u72,u73],defers:=[] }
def SwJ1 (w1:World) (re0:List REdge) (A:Option Addr) (n c mb:Nat) (m:Int) (a':Act) (W:World):Prop :=
 ∃ (ws:World) (re:List REdge) (i:Nat) (T:Int) (set:Value) (out:List RSp) (lo:RCut) (bc:Nat) (cu:RCut) (was:Bool) (u11 u14 u15 u16 u17 u18 u19 u20 u21 u22 u23 u24 u25 u26 u27 u28 u29 u30 u31 u32 u33 u34 u35 u36 u37 u38 u39 u40 u41 u42 u43 u44 u45 u46 u47 u48 u49 u50 u51 u52 u53 u54 u55 u56 u57 u58 u59 u60 u61 u62 u63 u64 u65 u66 u67 u68 u69 u70 u71 u72 u73:Value),SwFix w1 re0 A n mb m ws re∧SwAt w1 ws n i T set out lo W∧i<n ∧
  At6B W bc cu.kind cu.v.a cu.v.b cu.v.c (.slice cu.A cu.v.pre.length cu.c) (.slice cu.B cu.v.build.length cu.d)∧Tag W bc∧Lies w1 cu∧right cu.cut=true∧sweepL m (re.map REdge.edge)=out.map RSp.sp ++ go m cu.cut was T lo.cut ((re.drop i).map REdge.edge)∧a'={ tmps:=#[.slice A n c,.func (.func 251) #[] #[.pointer (some ⟨mb,0,none⟩)],undef,undef,.slice none 0 0,set,.pointer (some ⟨ws.heap.size,0,none⟩),.int .i64 i,.int .i64 T,.pointer (some ⟨bc,0,none⟩),.bool was,u11,.slice A n c,.tuple #[],u14,u15,u16,u17,u18,u19,u20,u21,u22,u23,u24,u25,u26,u27,u28,u29,u30,u31,u32,u33,u34,u35,u36,u37,u38,u39,u40,u41,u42,u43,u44,u45,u46,u47,u48,u49,u50,u51,u52,u53,u54,u55,u56,u57,u58,u59,u60,u61,u62,u63,u64,u65,u66,u67,u68,u69,u70,u71,u72,u73],defers:=[] }
theorem SwJ0.mk {w1:World} {re0:List REdge} {A:Option Addr} {n c mb:Nat} {m:Int} {a':Act} {W:World} (ws:World) (re:List REdge) (i:Nat) (T:Int) (set:Value) (out:List RSp) (lo:RCut) {u9 u10 u11 u14 u15 u16 u17 u18 u19 u20 u21 u22 u23 u24 u25 u26 u27 u28 u29 u30 u31 u32 u33 u34 u35 u36 u37 u38 u39 u40 u41 u42 u43 u44 u45 u46 u47 u48 u49 u50 u51 u52 u53 u54 u55 u56 u57 u58 u59 u60 u61 u62 u63 u64 u65 u66 u67 u68 u69 u70 u71 u72 u73:Value} (h1:SwFix w1 re0 A n mb m ws re) (h2:SwAt w1 ws n i T set out lo W)
  (h3:sweepL m (re.map REdge.edge)=out.map RSp.sp ++ nextL m T lo.cut ((re.drop i).map REdge.edge)) (h4:a'={ tmps:=#[.slice A n c,.func (.func 251) #[] #[.pointer (some ⟨mb,0,none⟩)],undef,undef,.slice none 0 0,set,.pointer (some ⟨ws.heap.size,0,none⟩),.int .i64 i,.int .i64 T,u9,u10,u11,.slice A n c,.tuple #[],u14,u15,u16,u17,u18,u19,u20,u21,u22,u23,u24,u25,u26,u27,u28,u29,u30,u31,u32,u33,u34,u35,u36,u37,u38,u39,u40,u41,u42,u43,u44,u45,u46,u47,u48,u49,u50,u51,u52,u53,u54,u55,u56,u57,u58,u59,u60,u61,u62,u63,u64,u65,u66,u67,u68,u69,u70,u71,u72,u73],defers:=[] }):SwJ0 w1 re0 A n c mb m a' W :=
 ⟨ws,re,i,T,set,out,lo,u9,u10,u11,u14,u15,u16,u17,u18,u19,u20,u21,u22,u23,u24,u25,u26,u27,u28,u29,u30,u31,u32,u33,u34,u35,u36,u37,u38,u39,u40,u41,u42,u43,u44,u45,u46,u47,u48,u49,u50,u51,u52,u53,u54,u55,u56,u57,u58,u59,u60,u61,u62,u63,u64,u65,u66,u67,u68,u69,u70,u71,u72,u73,h1,h2,h3,h4⟩
theorem SwJ0.out {w1:World} {re0:List REdge} {A:Option Addr} {n c mb:Nat} {m:Int} {C:Act→World→Prop} (h:∀ (W:World) (ws:World) (re:List REdge) (i:Nat) (T:Int) (set:Value) (out:List RSp) (lo:RCut) (u9 u10 u11 u14 u15 u16 u17 u18 u19 u20 u21 u22 u23 u24 u25 u26 u27 u28 u29 u30 u31 u32 u33 u34 u35 u36 u37 u38 u39 u40 u41 u42 u43 u44 u45 u46 u47 u48 u49 u50 u51 u52 u53 u54 u55 u56 u57 u58 u59 u60 u61 u62 u63 u64 u65 u66 u67 u68 u69 u70 u71 u72 u73:Value),SwFix w1 re0 A n mb m ws re→SwAt w1 ws n i T set out lo W →
  sweepL m (re.map REdge.edge)=out.map RSp.sp ++ nextL m T lo.cut ((re.drop i).map REdge.edge)→C { tmps:=#[.slice A n c,.func (.func 251) #[] #[.pointer (some ⟨mb,0,none⟩)],undef,undef,.slice none 0 0,set,.pointer (some ⟨ws.heap.size,0,none⟩),.int .i64 i,.int .i64 T,u9,u10,u11,.slice A n c,.tuple #[],u14,u15,u16,u17,u18,u19,u20,u21,u22,u23,u24,u25,u26,u27,u28,u29,u30,u31,u32,u33,u34,u35,u36,u37,u38,u39,u40,u41,u42,u43,u44,u45,u46,u47,u48,u49,u50,u51,u52,u53,u54,u55,u56,u57,u58,u59,u60,u61,u62,u63,u64,u65,u66,u67,u68,u69,u70,u71,u72,u73],defers:=[] } W):∀ a' W,SwJ0 w1 re0 A n c mb m a' W→C a' W:=by
 rintro a' W ⟨ws,re,i,T,set,out,lo,u9,u10,u11,u14,u15,u16,u17,u18,u19,u20,u21,u22,u23,u24,u25,u26,u27,u28,u29,u30,u31,u32,u33,u34,u35,u36,u37,u38,u39,u40,u41,u42,u43,u44,u45,u46,u47,u48,u49,u50,u51,u52,u53,u54,u55,u56,u57,u58,u59,u60,u61,u62,u63,u64,u65,u66,u67,u68,u69,u70,u71,u72,u73,h1,h2,h3,rfl⟩
 exact h W ws re i T set out lo u9 u10 u11 u14 u15 u16 u17 u18 u19 u20 u21 u22 u23 u24 u25 u26 u27 u28 u29 u30 u31 u32 u33 u34 u35 u36 u37 u38 u39 u40 u41 u42 u43 u44 u45 u46 u47 u48 u49 u50 u51 u52 u53 u54 u55 u56 u57 u58 u59 u60 u61 u62 u63 u64 u65 u66 u67 u68 u69 u70 u71 u72 u73 h1 h2 h3
theorem SwJ1.mk {w1:World} {re0:List REdge} {A:Option Addr} {n c mb:Nat} {m:Int} {a':Act} {W:World} (ws:World) (re:List REdge) (i:Nat) (T:Int) (set:Value) (out:List RSp) (lo:RCut) (bc:Nat) (cu:RCut) (was:Bool) {u11 u14 u15 u16 u17 u18 u19 u20 u21 u22 u23 u24 u25 u26 u27 u28 u29 u30 u31 u32 u33 u34 u35 u36 u37 u38 u39 u40 u41 u42 u43 u44 u45 u46 u47 u48 u49 u50 u51 u52 u53 u54 u55 u56 u57 u58 u59 u60 u61 u62 u63 u64 u65 u66 u67 u68 u69 u70 u71 u72 u73:Value} (h1:SwFix w1 re0 A n mb m ws re) (h2:SwAt w1 ws n i T set out lo W) (h5:i<n)
  (h6:At6B W bc cu.kind cu.v.a cu.v.b cu.v.c (.slice cu.A cu.v.pre.length cu.c) (.slice cu.B cu.v.build.length cu.d)) (h9:Tag W bc) (h7:Lies w1 cu) (h8:right cu.cut=true) (h3:sweepL m (re.map REdge.edge)=out.map RSp.sp ++ go m cu.cut was T lo.cut ((re.drop i).map REdge.edge)) (h4:a'={ tmps:=#[.slice A n c,.func (.func 251) #[] #[.pointer (some ⟨mb,0,none⟩)],undef,undef,.slice none 0 0,set,.pointer (some ⟨ws.heap.size,0,none⟩),.int .i64 i,.int .i64 T,.pointer (some ⟨bc,0,none⟩),.bool was,u11,.slice A n c,.tuple #[],u14,u15,u16,u17,u18,u19,u20,u21,u22,u23,u24,u25,u26,u27,u28,u29,u30,u31,u32,u33,u34,u35,u36,u37,u38,u39,u40,u41,u42,u43,u44,u45,u46,u47,u48,u49,u50,u51,u52,u53,u54,u55,u56,u57,u58,u59,u60,u61,u62,u63,u64,u65,u66,u67,u68,u69,u70,u71,u72,u73],defers:=[] }):SwJ1 w1 re0 A n c mb m a' W :=
 ⟨ws,re,i,T,set,out,lo,bc,cu,was,u11,u14,u15,u16,u17,u18,u19,u20,u21,u22,u23,u24,u25,u26,u27,u28,u29,u30,u31,u32,u33,u34,u35,u36,u37,u38,u39,u40,u41,u42,u43,u44,u45,u46,u47,u48,u49,u50,u51,u52,u53,u54,u55,u56,u57,u58,u59,u60,u61,u62,u63,u64,u65,u66,u67,u68,u69,u70,u71,u72,u73,h1,h2,h5,h6,h9,h7,h8,h3,h4⟩
theorem SwJ1.out {w1:World} {re0:List REdge} {A:Option Addr} {n c mb:Nat} {m:Int} {C:Act→World→Prop} (h:∀ (W:World) (ws:World) (re:List REdge) (i:Nat) (T:Int) (set:Value) (out:List RSp) (lo:RCut) (bc:Nat) (cu:RCut) (was:Bool) (u11 u14 u15 u16 u17 u18 u19 u20 u21 u22 u23 u24 u25 u26 u27 u28 u29 u30 u31 u32 u33 u34 u35 u36 u37 u38 u39 u40 u41 u42 u43 u44 u45 u46 u47 u48 u49 u50 u51 u52 u53 u54 u55 u56 u57 u58 u59 u60 u61 u62 u63 u64 u65 u66 u67 u68 u69 u70 u71 u72 u73:Value),SwFix w1 re0 A n mb m ws re→SwAt w1 ws n i T set out lo W→i<n →
  At6B W bc cu.kind cu.v.a cu.v.b cu.v.c (.slice cu.A cu.v.pre.length cu.c) (.slice cu.B cu.v.build.length cu.d)→Tag W bc→Lies w1 cu→right cu.cut=true→sweepL m (re.map REdge.edge)=out.map RSp.sp ++ go m cu.cut was T lo.cut ((re.drop i).map REdge.edge)→C { tmps:=#[.slice A n c,.func (.func 251) #[] #[.pointer (some ⟨mb,0,none⟩)],undef,undef,.slice none 0 0,set,.pointer (some ⟨ws.heap.size,0,none⟩),.int .i64 i,.int .i64 T,.pointer (some ⟨bc,0,none⟩),.bool was,u11,.slice A n c,.tuple #[],u14,u15,u16,u17,u18,u19,u20,u21,u22,u23,u24,u25,u26,u27,u28,u29,u30,u31,u32,u33,u34,u35,u36,u37,u38,u39,u40,u41,u42,u43,u44,u45,u46,u47,u48,u49,u50,u51,u52,u53,u54,u55,u56,u57,u58,u59,u60,u61,u62,u63,u64,u65,u66,u67,u68,u69,u70,u71,u72,u73],defers:=[] } W):∀ a' W,SwJ1 w1 re0 A n c mb m a' W→C a' W:=by
 rintro a' W ⟨ws,re,i,T,set,out,lo,bc,cu,was,u11,u14,u15,u16,u17,u18,u19,u20,u21,u22,u23,u24,u25,u26,u27,u28,u29,u30,u31,u32,u33,u34,u35,u36,u37,u38,u39,u40,u41,u42,u43,u44,u45,u46,u47,u48,u49,u50,u51,u52,u53,u54,u55,u56,u57,u58,u59,u60,u61,u62,u63,u64,u65,u66,u67,u68,u69,u70,u71,u72,u73,h1,h2,h5,h6,h9,h7,h8,h3,rfl⟩
 exact h W ws re i T set out lo bc cu was u11 u14 u15 u16 u17 u18 u19 u20 u21 u22 u23 u24 u25 u26 u27 u28 u29 u30 u31 u32 u33 u34 u35 u36 u37 u38 u39 u40 u41 u42 u43 u44 u45 u46 u47 u48 u49 u50 u51 u52 u53 u54 u55 u56 u57 u58 u59 u60 u61 u62 u63 u64 u65 u66 u67 u68 u69 u70 u71 u72 u73 h1 h2 h5 h6 h9 h7 h8 h3
def SwM0 (n:Nat) (a':Act) (_:World):Nat:=2 * (n - (intOf (a'.tmps.getD 7 undef)).toNat)+1
def SwM1 (n:Nat) (a':Act) (_:World):Nat:=2 * (n - (intOf (a'.tmps.getD 7 undef)).toNat)
def SweepPost (w1:World) (m:Int) (re0:List REdge) (e:Ending) (w':World):Prop :=
 ∃ (B:Nat) (set:Value) (out:List RSp) (re:List REdge),e=.returned set∧re.Perm re0∧(re.Pairwise fun x y=>stand x.cut.cut y.cut.cut≤0)∧out.map RSp.sp=sweepL m (re.map REdge.edge)∧w1.heap.size≤B∧w'.ownsRow B 190 12 set out.length (out.flatMap RSp.vals) ∧
  (∀ s ∈ out,OwnC w' B s.lo∧OwnC w' B s.hi)∧out.length≤re0.length∧Below w1.heap.size w1 w'
theorem drop_ed (re:List REdge) (k:Nat) (h:k<re.length):(re.drop k).map REdge.edge=(re.getD k default).edge :: (re.drop (k+1)).map REdge.edge:=by
 rw [List.drop_eq_getElem_cons h,List.map_cons]; simp only [List.getD,List.getElem?_eq_getElem h,Option.getD_some]
theorem getE_mem {l:List REdge} {k:Nat} (h:k<l.length):l.getD k default ∈ l:=by simp [List.getD,List.getElem?_eq_getElem h]
theorem ed_cells {w:World} {g n:Nat} {l:List REdge} (h:∀ j,j<n→∀ i u,(l.getD j default).vals[i]?=some u→w.cell? ⟨g,0+j * 7+i,none⟩=some u) {k:Nat} (hk:k<n) :
  w.cell? ⟨g,k * 7,none⟩=some (.int .i64 (l.getD k default).cut.kind)∧w.cell? ⟨g,k * 7+1,none⟩=some (.int .u64 ((l.getD k default).cut.v.a))∧w.cell? ⟨g,k * 7+2,none⟩=some (.int .u64 ((l.getD k default).cut.v.b))∧w.cell? ⟨g,k * 7+3,none⟩=some (.int .u64 ((l.getD k default).cut.v.c))∧w.cell? ⟨g,k * 7+4,none⟩=some (.slice (l.getD k default).cut.A (l.getD k default).cut.v.pre.length (l.getD k default).cut.c)∧w.cell? ⟨g,k * 7+5,none⟩=some (.slice (l.getD k default).cut.B (l.getD k default).cut.v.build.length (l.getD k default).cut.d)∧w.cell? ⟨g,k * 7+6,none⟩=some (.int .i64 (l.getD k default).step):=by
 have h':=fun i u hu=>h k hk i u hu
 simp only [Nat.zero_add] at h'
 exact ⟨h' 0 _ rfl,h' 1 _ rfl,h' 2 _ rfl,h' 3 _ rfl,h' 4 _ rfl,h' 5 _ rfl,h' 6 _ rfl⟩

end Go.Proofs.YtnpjklaaokiikaaGreatDoor.Span
