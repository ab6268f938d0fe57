/-
  What the theorem of the last text needs of these: PrRefEnds, SpRefRight, SpCame, RgWeight, RgExt, SpSort. Conditions: as each theorem states.
-/
import Derived.Test.YtgfbflnhjpbceaaGreatDoorSetB1
import Derived.Test.YtgfbflnhjpbceaaGreatDoorSetB4
import Derived.Test.YtgfbflnhjpbceaaGreatDoorSetB7
import Derived.Test.YtgfbflnhjpbceaaGreatDoorSetB11
import Derived.Test.YtgfbflnhjpbceaaGreatDoorSetB12
import Derived.Test.YtgfbflnhjpbceaaGreatDoorSetB13
import Derived.Deep.Slices
import Derived.Deep.Fields
import Derived.ChangeSame
import Derived.Test.YtgfbflnhjpbceaaGreatDoorShelfSort
import Derived.Shelf.SlSortCmp.NoneTotal
import Derived.Lib.QuietBelow
set_option maxRecDepth 100000
set_option maxHeartbeats 25600000
namespace Go.Proofs.YtgfbflnhjpbceaaGreatDoor.Prec
open Go.RowKit Num Ident Semver

theorem refFirst_int (p q r:Int) (w:World) :
  Calls Tryz.prog 101 #[.int .u64 p,.int .u64 q,.int .u64 r] w (FirstZ w p q r):=by
 go_enter Tryz.func101,Tryz.ntmps101
 go_wp2
 refine bodyPost_ret (v:=.agg #[.int .u64 p,.int .u64 q,.int .u64 r,.slice (some ⟨w.heap.size+1,0,none⟩) 1 1,.slice none 0 0]) (by simp [results,Tryz.results101,go_sem]) rfl ?_
 refine ⟨some ⟨w.heap.size+1,0,none⟩,rfl,?_,((Below.refl _ _).alloc (Nat.le_refl _) _).alloc (by simp) _⟩
 have:=SRow.one (w.alloc (.cells #[.int .u64 p,.int .u64 q,.int .u64 r,.slice (some ⟨w.heap.size+1,0,none⟩) 1 1,.slice none 0 0] 25)) [48]
 rw [size_alloc] at this; exact this
theorem refTilde_yes (p q r:Int) (X Y:Value) (w:World) (h0:0≤q) (h1:q<9223372036854775807) :
  Calls Tryz.prog 64 #[.agg #[.int .u64 p,.int .u64 q,.int .u64 r,X,Y]] w (EndZ w p (q+1) 0):=by
 have HB0:Hid (Below w.heap.size w ((w.alloc (.cells #[.int .u64 p,.int .u64 q,.int .u64 r,X,Y] 25)).alloc false)):=((Below.refl _ _).alloc (Nat.le_refl _) _).alloc (by simp) _
 have K1:Hid (At5 ((w.alloc (.cells #[.int .u64 p,.int .u64 q,.int .u64 r,X,Y] 25)).alloc false) w.heap.size (.int .u64 p) (.int .u64 q) (.int .u64 r) (X) (Y)):=(At5.new w 25 _ _ _ _ _).kept ((Below.refl _ _).alloc (Nat.le_refl _) _) (by simp)
 have K2:Hid (At5 ((w.alloc (.cells #[.int .u64 p,.int .u64 q,.int .u64 r,X,Y] 25)).alloc false) (w.heap.size+1) (.int .u64 0) (.int .u64 0) (.int .u64 0) (.slice none 0 0) (.slice none 0 0)):=by
  have:=At5.new (w.alloc (.cells #[.int .u64 p,.int .u64 q,.int .u64 r,X,Y] 25)) 25 (.int .u64 0) (.int .u64 0) (.int .u64 0) (.slice none 0 0) (.slice none 0 0)
  rw [size_alloc] at this; exact this
 go_enter Tryz.func64,Tryz.ntmps64
 go_upto_region 1 with (fail)
 generalize ((w.alloc (.cells #[.int .u64 p,.int .u64 q,.int .u64 r,X,Y] 25)).alloc false)=W at HB0 K1 K2 ⊢
 obtain ⟨hz0,_,x0,x1,x2,x3,x4⟩:=K1.out
 obtain ⟨hz1,_,y0,y1,y2,y3,y4⟩:=K2.out
 go_wp2_with fail
 refine (refFirst_int _ _ _ _).mono ?_
 rintro e w3 ⟨A,rfl,hr,hb3⟩
 have N2:=Lib.hid (K2.out.kept hb3 hz1)
 have B3:=Lib.hid (HB0.out.trans (hb3.mono (by omega)))
 obtain ⟨hz3,hf,g0,g1,g2,g3,g4⟩:=N2.out
 have R:=Lib.hid (hr.set5 g0 g1 g2 g3 g4 (by simp) (by simp) (by simp) (by simp) (by simp) (.int .u64 p) (.int .u64 (q+1)) (.int .u64 0) (.slice A 1 1) (.slice none 0 0))
 have B4:Hid (Below w.heap.size w (set5 w3 (w.heap.size+1) (.int .u64 p) (.int .u64 (q+1)) (.int .u64 0) (.slice A 1 1) (.slice none 0 0))):=(((((B3.out.setCell (by simp) _).setCell (by simp) _).setCell (by simp) _).setCell (by simp) _).setCell (by simp) _)
 have N3:=Lib.hid (N2.out.set5 (.int .u64 p) (.int .u64 (q+1)) (.int .u64 0) (.slice A 1 1) (.slice none 0 0))
 clear hr hb3 x0 x1 x2 x3 x4 y0 y1 y2 y3 y4
 unfold set5 at B4 N3
 go_wp2
 generalize (((((w3.setCell ⟨w.heap.size+1,0,none⟩ (.int .u64 p)).setCell ⟨w.heap.size+1,1,none⟩ (.int .u64 (q+1))).setCell ⟨w.heap.size+1,2,none⟩ (.int .u64 0)).setCell ⟨w.heap.size+1,3,none⟩ (.slice A 1 1)).setCell ⟨w.heap.size+1,4,none⟩ (.slice none 0 0))=w4 at R B4 N3 ⊢
 obtain ⟨_,_,z0,z1,z2,z3,z4⟩:=N3.out
 exact bodyPost_ret (v:=.tuple #[.agg #[.int .u64 p,.int .u64 (q+1),.int .u64 0,.slice A 1 1,.slice none 0 0],.bool true]) (by simp [results,Tryz.results64,go_sem,z0,z1,z2,z3,z4]) rfl ⟨A,rfl,R.out,B4.out⟩

theorem refTilde_no (p q r:Int) (X Y:Value) (w:World) (h1:9223372036854775807≤q) :
  Calls Tryz.prog 64 #[.agg #[.int .u64 p,.int .u64 q,.int .u64 r,X,Y]] w (NoneZ w):=by
 have HB0:Hid (Below w.heap.size w ((w.alloc (.cells #[.int .u64 p,.int .u64 q,.int .u64 r,X,Y] 25)).alloc false)):=((Below.refl _ _).alloc (Nat.le_refl _) _).alloc (by simp) _
 have K1:Hid (At5 ((w.alloc (.cells #[.int .u64 p,.int .u64 q,.int .u64 r,X,Y] 25)).alloc false) w.heap.size (.int .u64 p) (.int .u64 q) (.int .u64 r) (X) (Y)):=(At5.new w 25 _ _ _ _ _).kept ((Below.refl _ _).alloc (Nat.le_refl _) _) (by simp)
 have K2:Hid (At5 ((w.alloc (.cells #[.int .u64 p,.int .u64 q,.int .u64 r,X,Y] 25)).alloc false) (w.heap.size+1) (.int .u64 0) (.int .u64 0) (.int .u64 0) (.slice none 0 0) (.slice none 0 0)):=by
  have:=At5.new (w.alloc (.cells #[.int .u64 p,.int .u64 q,.int .u64 r,X,Y] 25)) 25 (.int .u64 0) (.int .u64 0) (.int .u64 0) (.slice none 0 0) (.slice none 0 0)
  rw [size_alloc] at this; exact this
 go_enter Tryz.func64,Tryz.ntmps64
 go_wp2
 exact bodyPost_ret (v:=.tuple #[.agg #[.int .u64 0,.int .u64 0,.int .u64 0,.slice none 0 0,.slice none 0 0],.bool false]) (by simp [results,Tryz.results64,go_sem]) rfl ⟨rfl,HB0.out⟩

theorem refTilde_any (v:Ver) (A:Option Addr) (c:Nat) (B:Option Addr) (d:Nat) (w:World) :
  Calls Tryz.prog 64 #[.agg #[v.a,v.b,v.c,.slice A v.pre.length c,.slice B v.build.length d]] w (EndPost w (tildeV v)):=by
 unfold tildeV
 by_cases h:(9223372036854775807:Int)≤(v.b:Int)
 ·rw [end_1_no h]
  exact (refTilde_no _ _ _ _ _ w h).mono fun e w' hk=>EndPost.of_none hk
 ·rw [end_1_yes (by omega)]
  exact (refTilde_yes _ _ _ _ _ w (by omega) (by omega)).mono fun e w' hk=>EndPost.of_end hk (by omega) (by omega) (by omega)

theorem refCaret_a (p q r:Int) (X Y:Value) (w:World) (h0:0<p) (h1:p<9223372036854775807) :
  Calls Tryz.prog 63 #[.agg #[.int .u64 p,.int .u64 q,.int .u64 r,X,Y]] w (EndZ w (p+1) 0 0):=by
 have HB0:Hid (Below w.heap.size w ((w.alloc (.cells #[.int .u64 p,.int .u64 q,.int .u64 r,X,Y] 25)).alloc false)):=((Below.refl _ _).alloc (Nat.le_refl _) _).alloc (by simp) _
 have K1:Hid (At5 ((w.alloc (.cells #[.int .u64 p,.int .u64 q,.int .u64 r,X,Y] 25)).alloc false) w.heap.size (.int .u64 p) (.int .u64 q) (.int .u64 r) (X) (Y)):=(At5.new w 25 _ _ _ _ _).kept ((Below.refl _ _).alloc (Nat.le_refl _) _) (by simp)
 have K2:Hid (At5 ((w.alloc (.cells #[.int .u64 p,.int .u64 q,.int .u64 r,X,Y] 25)).alloc false) (w.heap.size+1) (.int .u64 0) (.int .u64 0) (.int .u64 0) (.slice none 0 0) (.slice none 0 0)):=by
  have:=At5.new (w.alloc (.cells #[.int .u64 p,.int .u64 q,.int .u64 r,X,Y] 25)) 25 (.int .u64 0) (.int .u64 0) (.int .u64 0) (.slice none 0 0) (.slice none 0 0)
  rw [size_alloc] at this; exact this
 go_enter Tryz.func63,Tryz.ntmps63
 go_upto_region 1 with (fail)
 generalize ((w.alloc (.cells #[.int .u64 p,.int .u64 q,.int .u64 r,X,Y] 25)).alloc false)=W at HB0 K1 K2 ⊢
 obtain ⟨hz0,_,x0,x1,x2,x3,x4⟩:=K1.out
 obtain ⟨hz1,_,y0,y1,y2,y3,y4⟩:=K2.out
 go_wp2_with fail
 refine (refFirst_int _ _ _ _).mono ?_
 rintro e w3 ⟨A,rfl,hr,hb3⟩
 have N2:=Lib.hid (K2.out.kept hb3 hz1)
 have B3:=Lib.hid (HB0.out.trans (hb3.mono (by omega)))
 obtain ⟨hz3,hf,g0,g1,g2,g3,g4⟩:=N2.out
 have R:=Lib.hid (hr.set5 g0 g1 g2 g3 g4 (by simp) (by simp) (by simp) (by simp) (by simp) (.int .u64 (p+1)) (.int .u64 0) (.int .u64 0) (.slice A 1 1) (.slice none 0 0))
 have B4:Hid (Below w.heap.size w (set5 w3 (w.heap.size+1) (.int .u64 (p+1)) (.int .u64 0) (.int .u64 0) (.slice A 1 1) (.slice none 0 0))):=(((((B3.out.setCell (by simp) _).setCell (by simp) _).setCell (by simp) _).setCell (by simp) _).setCell (by simp) _)
 have N3:=Lib.hid (N2.out.set5 (.int .u64 (p+1)) (.int .u64 0) (.int .u64 0) (.slice A 1 1) (.slice none 0 0))
 clear hr hb3 x0 x1 x2 x3 x4 y0 y1 y2 y3 y4
 unfold set5 at B4 N3
 go_wp2
 generalize (((((w3.setCell ⟨w.heap.size+1,0,none⟩ (.int .u64 (p+1))).setCell ⟨w.heap.size+1,1,none⟩ (.int .u64 0)).setCell ⟨w.heap.size+1,2,none⟩ (.int .u64 0)).setCell ⟨w.heap.size+1,3,none⟩ (.slice A 1 1)).setCell ⟨w.heap.size+1,4,none⟩ (.slice none 0 0))=w4 at R B4 N3 ⊢
 obtain ⟨_,_,z0,z1,z2,z3,z4⟩:=N3.out
 exact bodyPost_ret (v:=.tuple #[.agg #[.int .u64 (p+1),.int .u64 0,.int .u64 0,.slice A 1 1,.slice none 0 0],.bool true]) (by simp [results,Tryz.results63,go_sem,z0,z1,z2,z3,z4]) rfl ⟨A,rfl,R.out,B4.out⟩

theorem refCaret_na (p q r:Int) (X Y:Value) (w:World) (h0:0<p) (h1:9223372036854775807≤p) :
  Calls Tryz.prog 63 #[.agg #[.int .u64 p,.int .u64 q,.int .u64 r,X,Y]] w (NoneZ w):=by
 have HB0:Hid (Below w.heap.size w ((w.alloc (.cells #[.int .u64 p,.int .u64 q,.int .u64 r,X,Y] 25)).alloc false)):=((Below.refl _ _).alloc (Nat.le_refl _) _).alloc (by simp) _
 have K1:Hid (At5 ((w.alloc (.cells #[.int .u64 p,.int .u64 q,.int .u64 r,X,Y] 25)).alloc false) w.heap.size (.int .u64 p) (.int .u64 q) (.int .u64 r) (X) (Y)):=(At5.new w 25 _ _ _ _ _).kept ((Below.refl _ _).alloc (Nat.le_refl _) _) (by simp)
 have K2:Hid (At5 ((w.alloc (.cells #[.int .u64 p,.int .u64 q,.int .u64 r,X,Y] 25)).alloc false) (w.heap.size+1) (.int .u64 0) (.int .u64 0) (.int .u64 0) (.slice none 0 0) (.slice none 0 0)):=by
  have:=At5.new (w.alloc (.cells #[.int .u64 p,.int .u64 q,.int .u64 r,X,Y] 25)) 25 (.int .u64 0) (.int .u64 0) (.int .u64 0) (.slice none 0 0) (.slice none 0 0)
  rw [size_alloc] at this; exact this
 go_enter Tryz.func63,Tryz.ntmps63
 go_wp2
 exact bodyPost_ret (v:=.tuple #[.agg #[.int .u64 0,.int .u64 0,.int .u64 0,.slice none 0 0,.slice none 0 0],.bool false]) (by simp [results,Tryz.results63,go_sem]) rfl ⟨rfl,HB0.out⟩

theorem refCaret_c (p q r:Int) (X Y:Value) (w:World) (h0:p≤0) (h2:q≤0) (h3:0≤r) (h1:r<9223372036854775807) :
  Calls Tryz.prog 63 #[.agg #[.int .u64 p,.int .u64 q,.int .u64 r,X,Y]] w (EndZ w 0 0 (r+1)):=by
 have HB0:Hid (Below w.heap.size w ((w.alloc (.cells #[.int .u64 p,.int .u64 q,.int .u64 r,X,Y] 25)).alloc false)):=((Below.refl _ _).alloc (Nat.le_refl _) _).alloc (by simp) _
 have K1:Hid (At5 ((w.alloc (.cells #[.int .u64 p,.int .u64 q,.int .u64 r,X,Y] 25)).alloc false) w.heap.size (.int .u64 p) (.int .u64 q) (.int .u64 r) (X) (Y)):=(At5.new w 25 _ _ _ _ _).kept ((Below.refl _ _).alloc (Nat.le_refl _) _) (by simp)
 have K2:Hid (At5 ((w.alloc (.cells #[.int .u64 p,.int .u64 q,.int .u64 r,X,Y] 25)).alloc false) (w.heap.size+1) (.int .u64 0) (.int .u64 0) (.int .u64 0) (.slice none 0 0) (.slice none 0 0)):=by
  have:=At5.new (w.alloc (.cells #[.int .u64 p,.int .u64 q,.int .u64 r,X,Y] 25)) 25 (.int .u64 0) (.int .u64 0) (.int .u64 0) (.slice none 0 0) (.slice none 0 0)
  rw [size_alloc] at this; exact this
 go_enter Tryz.func63,Tryz.ntmps63
 go_upto_region 1 with (fail)
 generalize ((w.alloc (.cells #[.int .u64 p,.int .u64 q,.int .u64 r,X,Y] 25)).alloc false)=W at HB0 K1 K2 ⊢
 obtain ⟨hz0,_,x0,x1,x2,x3,x4⟩:=K1.out
 obtain ⟨hz1,_,y0,y1,y2,y3,y4⟩:=K2.out
 go_wp2_with fail
 refine (refFirst_int _ _ _ _).mono ?_
 rintro e w3 ⟨A,rfl,hr,hb3⟩
 have N2:=Lib.hid (K2.out.kept hb3 hz1)
 have B3:=Lib.hid (HB0.out.trans (hb3.mono (by omega)))
 obtain ⟨hz3,hf,g0,g1,g2,g3,g4⟩:=N2.out
 have R:=Lib.hid (hr.set5 g0 g1 g2 g3 g4 (by simp) (by simp) (by simp) (by simp) (by simp) (.int .u64 0) (.int .u64 0) (.int .u64 (r+1)) (.slice A 1 1) (.slice none 0 0))
 have B4:Hid (Below w.heap.size w (set5 w3 (w.heap.size+1) (.int .u64 0) (.int .u64 0) (.int .u64 (r+1)) (.slice A 1 1) (.slice none 0 0))):=(((((B3.out.setCell (by simp) _).setCell (by simp) _).setCell (by simp) _).setCell (by simp) _).setCell (by simp) _)
 have N3:=Lib.hid (N2.out.set5 (.int .u64 0) (.int .u64 0) (.int .u64 (r+1)) (.slice A 1 1) (.slice none 0 0))
 clear hr hb3 x0 x1 x2 x3 x4 y0 y1 y2 y3 y4
 unfold set5 at B4 N3
 go_wp2
 generalize (((((w3.setCell ⟨w.heap.size+1,0,none⟩ (.int .u64 0)).setCell ⟨w.heap.size+1,1,none⟩ (.int .u64 0)).setCell ⟨w.heap.size+1,2,none⟩ (.int .u64 (r+1))).setCell ⟨w.heap.size+1,3,none⟩ (.slice A 1 1)).setCell ⟨w.heap.size+1,4,none⟩ (.slice none 0 0))=w4 at R B4 N3 ⊢
 obtain ⟨_,_,z0,z1,z2,z3,z4⟩:=N3.out
 exact bodyPost_ret (v:=.tuple #[.agg #[.int .u64 0,.int .u64 0,.int .u64 (r+1),.slice A 1 1,.slice none 0 0],.bool true]) (by simp [results,Tryz.results63,go_sem,z0,z1,z2,z3,z4]) rfl ⟨A,rfl,R.out,B4.out⟩

theorem refCaret_nc (p q r:Int) (X Y:Value) (w:World) (h0:p≤0) (h2:q≤0) (h1:9223372036854775807≤r) :
  Calls Tryz.prog 63 #[.agg #[.int .u64 p,.int .u64 q,.int .u64 r,X,Y]] w (NoneZ w):=by
 have HB0:Hid (Below w.heap.size w ((w.alloc (.cells #[.int .u64 p,.int .u64 q,.int .u64 r,X,Y] 25)).alloc false)):=((Below.refl _ _).alloc (Nat.le_refl _) _).alloc (by simp) _
 have K1:Hid (At5 ((w.alloc (.cells #[.int .u64 p,.int .u64 q,.int .u64 r,X,Y] 25)).alloc false) w.heap.size (.int .u64 p) (.int .u64 q) (.int .u64 r) (X) (Y)):=(At5.new w 25 _ _ _ _ _).kept ((Below.refl _ _).alloc (Nat.le_refl _) _) (by simp)
 have K2:Hid (At5 ((w.alloc (.cells #[.int .u64 p,.int .u64 q,.int .u64 r,X,Y] 25)).alloc false) (w.heap.size+1) (.int .u64 0) (.int .u64 0) (.int .u64 0) (.slice none 0 0) (.slice none 0 0)):=by
  have:=At5.new (w.alloc (.cells #[.int .u64 p,.int .u64 q,.int .u64 r,X,Y] 25)) 25 (.int .u64 0) (.int .u64 0) (.int .u64 0) (.slice none 0 0) (.slice none 0 0)
  rw [size_alloc] at this; exact this
 go_enter Tryz.func63,Tryz.ntmps63
 go_wp2
 exact bodyPost_ret (v:=.tuple #[.agg #[.int .u64 0,.int .u64 0,.int .u64 0,.slice none 0 0,.slice none 0 0],.bool false]) (by simp [results,Tryz.results63,go_sem]) rfl ⟨rfl,HB0.out⟩

theorem refCaret_b (p q r:Int) (X Y:Value) (o:Option Ver) (w:World) (h0:p≤0) (h1:0<q)
  (HE:Hid (∀ W,Calls Tryz.prog 64 #[.agg #[.int .u64 p,.int .u64 q,.int .u64 r,X,Y]] W (EndPost W o))) :
  Calls Tryz.prog 63 #[.agg #[.int .u64 p,.int .u64 q,.int .u64 r,X,Y]] w (EndPost w o):=by
 have HB0:Hid (Below w.heap.size w ((w.alloc (.cells #[.int .u64 p,.int .u64 q,.int .u64 r,X,Y] 25)).alloc false)):=((Below.refl _ _).alloc (Nat.le_refl _) _).alloc (by simp) _
 have K1:Hid (At5 ((w.alloc (.cells #[.int .u64 p,.int .u64 q,.int .u64 r,X,Y] 25)).alloc false) w.heap.size (.int .u64 p) (.int .u64 q) (.int .u64 r) (X) (Y)):=(At5.new w 25 _ _ _ _ _).kept ((Below.refl _ _).alloc (Nat.le_refl _) _) (by simp)
 have K2:Hid (At5 ((w.alloc (.cells #[.int .u64 p,.int .u64 q,.int .u64 r,X,Y] 25)).alloc false) (w.heap.size+1) (.int .u64 0) (.int .u64 0) (.int .u64 0) (.slice none 0 0) (.slice none 0 0)):=by
  have:=At5.new (w.alloc (.cells #[.int .u64 p,.int .u64 q,.int .u64 r,X,Y] 25)) 25 (.int .u64 0) (.int .u64 0) (.int .u64 0) (.slice none 0 0) (.slice none 0 0)
  rw [size_alloc] at this; exact this
 have HP':Hid (∀ e w',EndIs w (verOf o) o.isSome e w'→EndPost w o e w'):=fun _ _ h=>h
 go_enter Tryz.func63,Tryz.ntmps63
 go_upto_region 1 with (fail)
 generalize ((w.alloc (.cells #[.int .u64 p,.int .u64 q,.int .u64 r,X,Y] 25)).alloc false)=W at HB0 K1 K2 ⊢
 obtain ⟨hz0,_,x0,x1,x2,x3,x4⟩:=K1.out
 obtain ⟨hz1,_,y0,y1,y2,y3,y4⟩:=K2.out
 go_wp2_with fail
 refine (HE.out _).mono ?_
 rintro e w3 ⟨A',c',rfl,hr,hbu,hb3⟩
 have HU:=Lib.hid hbu
 generalize verOf o=x at hr HU HP' ⊢
 generalize o.isSome=s at HP' ⊢
 have N2:=Lib.hid (K2.out.kept hb3 hz1)
 have B3:=Lib.hid (HB0.out.trans (hb3.mono (by omega)))
 obtain ⟨hz3,hf,g0,g1,g2,g3,g4⟩:=N2.out
 have R:=Lib.hid (hr.set5 g0 g1 g2 g3 g4 (by simp) (by simp) (by simp) (by simp) (by simp) x.a x.b x.c (.slice A' x.pre.length c') (.slice none x.build.length 0))
 have B4:Hid (Below w.heap.size w (set5 w3 (w.heap.size+1) x.a x.b x.c (.slice A' x.pre.length c') (.slice none x.build.length 0))):=(((((B3.out.setCell (by simp) _).setCell (by simp) _).setCell (by simp) _).setCell (by simp) _).setCell (by simp) _)
 have N3:=Lib.hid (N2.out.set5 x.a x.b x.c (.slice A' x.pre.length c') (.slice none x.build.length 0))
 clear hr hb3 x0 x1 x2 x3 x4 y0 y1 y2 y3 y4
 unfold set5 at B4 N3
 go_wp2
 generalize (((((w3.setCell ⟨w.heap.size+1,0,none⟩ x.a).setCell ⟨w.heap.size+1,1,none⟩ x.b).setCell ⟨w.heap.size+1,2,none⟩ x.c).setCell ⟨w.heap.size+1,3,none⟩ (.slice A' x.pre.length c')).setCell ⟨w.heap.size+1,4,none⟩ (.slice none x.build.length 0))=w4 at R B4 N3 ⊢
 obtain ⟨_,_,z0,z1,z2,z3,z4⟩:=N3.out
 exact bodyPost_ret (v:=.tuple #[.agg #[x.a,x.b,x.c,.slice A' x.pre.length c',.slice none x.build.length 0],.bool s]) (by simp [results,Tryz.results63,go_sem,z0,z1,z2,z3,z4]) rfl (HP'.out _ _ ⟨A',c',rfl,R.out,HU.out,B4.out⟩)

theorem refCaret_any (v:Ver) (A:Option Addr) (c:Nat) (B:Option Addr) (d:Nat) (w:World) :
  Calls Tryz.prog 63 #[.agg #[v.a,v.b,v.c,.slice A v.pre.length c,.slice B v.build.length d]] w (EndPost w (caretV v)):=by
 by_cases h0:v.a=0
 ·by_cases h1:v.b=0
  ·rw [caret_2 h0 h1]
   by_cases h:(9223372036854775807:Int)≤(v.c:Int)
   ·rw [end_2_no h]
    exact (refCaret_nc _ _ _ _ _ w (by omega) (by omega) h).mono fun e w' hk=>EndPost.of_none hk
   ·rw [end_2_yes (by omega)]
    exact (refCaret_c _ _ _ _ _ w (by omega) (by omega) (by omega) (by omega)).mono fun e w' hk=>EndPost.of_end hk (by omega) (by omega) (by omega)
  ·have e:caretV v=tildeV v:=caret_1 h0 h1
   rw [e]
   exact refCaret_b _ _ _ _ _ _ w (by omega) (by omega) (Lib.hid fun W=>refTilde_any v A c B d W)
 ·rw [caret_0 h0]
  by_cases h:(9223372036854775807:Int)≤(v.a:Int)
  ·rw [end_0_no h]
   exact (refCaret_na _ _ _ _ _ w (by omega) h).mono fun e w' hk=>EndPost.of_none hk
  ·rw [end_0_yes (by omega)]
   exact (refCaret_a _ _ _ _ _ w (by omega) (by omega)).mono fun e w' hk=>EndPost.of_end hk (by omega) (by omega) (by omega)
end Go.Proofs.YtgfbflnhjpbceaaGreatDoor.Prec
namespace Go.Proofs.YtgfbflnhjpbceaaGreatDoor.Span
open Go.RowKit Num Ident Semver Prec

theorem refRight_any (r:RCut) (w:World) (h:Lies w r) :
  Calls Tryz.prog 66 #[.agg #[r.kind,r.v.a,r.v.b,r.v.c,.slice r.A r.v.pre.length r.c,.slice r.B r.v.build.length r.d]] w fun e w'=>e=.returned (.bool (right r.cut))∧Below w.heap.size w w':=by
 have HBa:Hid (Below w.heap.size w (w.alloc r)):=(Below.refl _ _).alloc (Nat.le_refl _) _
 have HL:=Lib.hid (h.kept HBa.out)
 have K0:Hid (At6B (w.alloc r) w.heap.size r.kind r.v.a r.v.b r.v.c (.slice r.A r.v.pre.length r.c) (.slice r.B r.v.build.length r.d)):=At6B.new w _ _ _ _ _ _ _
 clear h
 by_cases h0:r.kind=0∨r.kind=3
 ·have HF:Hid (right r.cut=sameV r.v noVer):=right_ends h0
  have e1:(r.kind == 1)=false:=by simp; omega
  have e2:(r.kind == 2)=false:=by simp; omega
  have hs:(r.kind == 0)=true∨((r.kind == 0)=false∧(r.kind == 3)=true):=by
   rcases h0 with h0 | h0
   ·left; simp [h0]
   ·right; simp [h0]
  clear h0
  rcases hs with e0 | ⟨e0,e3⟩
  all_goals
   go_enter Tryz.func66,Tryz.ntmps66
   go_upto_region 1 with (fail)
   generalize (w.alloc r)=W at HBa HL K0 ⊢
   obtain ⟨hz,_,x0,x1,x2,x3,x4,x5⟩:=K0.out
   go_wp2_with fail
   refine (refSame_any r.v noVer r.A r.B none none r.c r.d 0 0 _ HL.out.pre HL.out.build (SRow.none_ _ _) (SRow.none_ _ _) HL.out.fpre.1 HL.out.fbuild.1 (Nat.zero_le _) (Nat.zero_le _)).mono ?_
   rintro e w1 ⟨rfl,hb1⟩
   have B1:=Lib.hid (HBa.out.trans (hb1.mono HBa.out.size))
   clear hb1 x0 x1 x2 x3 x4 x5
   go_wp2
   go_ret
   exact ⟨by rw [HF.out]; rfl,B1.out⟩
 have e0:(r.kind == 0)=false:=by simp; omega
 have e3:(r.kind == 3)=false:=by simp; omega
 by_cases h1:r.kind=1∨r.kind=2
 ·have HF:Hid (right r.cut=(goodV r.v && decide (r.v.build.length=0))):=right_ver h1
  have hs:(r.kind == 1)=true∨((r.kind == 1)=false∧(r.kind == 2)=true):=by
   rcases h1 with h1 | h1
   ·left; simp [h1]
   ·right; simp [h1]
  clear h0 h1
  rcases hs with e1 | ⟨e1,e2⟩
  all_goals
   go_enter Tryz.func66,Tryz.ntmps66
   go_upto_region 1 with (fail)
   generalize (w.alloc r)=W at HBa HL K0 ⊢
   obtain ⟨hz,_,x0,x1,x2,x3,x4,x5⟩:=K0.out
   go_wp2_with fail
   refine (refGood_all r.v r.A r.c r.B r.d _ HL.out.pre HL.out.build HL.out.fpre.1 HL.out.fbuild.1 HL.out.fpre.2 HL.out.fbuild.2).mono ?_
   rintro e w1 ⟨rfl,hb1⟩
   have B1:=Lib.hid (HBa.out.trans (hb1.mono HBa.out.size))
   have K1:=Lib.hid (K0.out.kept hb1 hz)
   clear hb1 x0 x1 x2 x3 x4 x5 hz
   obtain ⟨hz,_,x0,x1,x2,x3,x4,x5⟩:=K1.out
   generalize goodV r.v=g at HF ⊢
   cases g
   ·go_wp2
    go_ret
    exact ⟨by rw [HF.out]; rfl,B1.out⟩
   ·by_cases hb:r.v.build.length=0
    ·have HF2:Hid (right r.cut=true):=by have:=HF.out; rw [this,decide_eq_true hb]; rfl
     have eb:((r.v.build.length:Int) == 0)=true:=by rw [beq_iff_eq]; omega
     clear HF hb
     go_wp2
     go_ret
     exact ⟨by rw [HF2.out]; rfl,B1.out⟩
    ·have HF2:Hid (right r.cut=false):=by have:=HF.out; rw [this,decide_eq_false hb]; rfl
     have eb:((r.v.build.length:Int) == 0)=false:=by rw [beq_eq_false_iff_ne]; omega
     clear HF hb
     go_wp2
     go_ret
     exact ⟨by rw [HF2.out]; rfl,B1.out⟩
 ·have HF:Hid (right r.cut=false):=right_none h0 h1
  have e1:(r.kind == 1)=false:=by simp; omega
  have e2:(r.kind == 2)=false:=by simp; omega
  clear h0 h1
  go_enter Tryz.func66,Tryz.ntmps66
  go_upto_region 1 with (fail)
  generalize (w.alloc r)=W at HBa HL K0 ⊢
  obtain ⟨hz,_,x0,x1,x2,x3,x4,x5⟩:=K0.out
  go_wp2
  go_ret
  exact ⟨by rw [HF.out]; rfl,HBa.out⟩
end Go.Proofs.YtgfbflnhjpbceaaGreatDoor.Span
namespace Go.Proofs.YtgfbflnhjpbceaaGreatDoor.Came
open Go.ChangeShapes Go.WideShapes Go.RowKit Go.Deep

theorem kind_read {H:Type} {enc:TypeId × Value→H} {W:World} {n:Nat} {z:Value} {y:DataW H × List MemPlace} (h:DataW.trod enc Tryz.prog W 0 (fun _=>true) true n 3 [z]=some y):∃ k:Int,z=.int .i64 k:=by
 obtain ⟨m,hm,_,_⟩:=DataW.trod_int Tryz.underlying3 h
 simp at hm
 exact ⟨m,hm⟩
theorem list_of {α:Type} [Inhabited α] {P:Nat→α→Prop}:∀ (n:Nat),(∀ i,i<n→∃ x,P i x)→∃ l:List α,l.length=n∧∀ i,i<n→P i (l.getD i default)
 | 0,_=>⟨[],rfl,fun i hi=>by omega⟩
 | n+1,h=>by
  obtain ⟨l,hl,hp⟩:=list_of n fun i hi=>h i (by omega)
  obtain ⟨x,hx⟩:=h n (by omega)
  refine ⟨l ++ [x],by simp [hl],fun i hi=>?_⟩
  rcases Nat.lt_or_ge i n with h1 | h1
  ·have e:(l ++ [x]).getD i default=l.getD i default:=by simp [List.getD,List.getElem?_append_left (show i<l.length by omega)]
   rw [e]; exact hp i h1
  ·obtain rfl:i=n:=by omega
   have e:(l ++ [x]).getD i default=x:=by simp [List.getD,← hl]
   rw [e]; exact hx
end Go.Proofs.YtgfbflnhjpbceaaGreatDoor.Came
namespace Go.Proofs.YtgfbflnhjpbceaaGreatDoor.Range
open Go.RowKit Num Ident Semver
mutual
def wt:Rng→Nat
 | .mk _ _ l=>1+wtL l
def wtL:List Rng→Nat
 | []=>0
 | r :: rs=>wt r+wtL rs
end
theorem wt_eq (r:Rng):wt r=1+wtL r.subs:=by cases r; rfl
theorem wtL_cons (r:Rng) (rs:List Rng):wtL (r :: rs)=wt r+wtL rs:=rfl
theorem wtL_drop (l:List Rng) (i:Nat) (h:i<l.length):wtL (l.drop i)=1+wtL (l.getD i noRng).subs+wtL (l.drop (i+1)):=by
 rw [List.drop_eq_getElem_cons h,wtL_cons,wt_eq]
 simp [List.getD,List.getElem?_eq_getElem h]
theorem least {p:Nat→Prop} (h:∃ n,p n):∃ m,p m∧∀ k,p k→m≤k:=by
 obtain ⟨n,hn⟩:=h
 induction n using Nat.strongRecOn with
 | _ n ih =>
  by_cases hk:∃ k,k<n∧p k
  ·obtain ⟨k,hlt,hp⟩:=hk; exact ih k hlt hp
  ·exact ⟨n,hn,fun k hp=>Nat.le_of_not_lt fun hlt=>hk ⟨k,hlt,hp⟩⟩
open Classical in
noncomputable def leastOf (p:Nat→Prop):Nat:=if h:∃ n,p n then Classical.choose (least h) else 0
theorem leastOf_at {p:Nat→Prop} (h:∃ n,p n):p (leastOf p):=by unfold leastOf; rw [dif_pos h]; exact (Classical.choose_spec (least h)).1
theorem leastOf_le {p:Nat→Prop} {k:Nat} (h:p k):leastOf p≤k:=by unfold leastOf; rw [dif_pos ⟨k,h⟩]; exact (Classical.choose_spec (least ⟨k,h⟩)).2 k h
theorem wp_scope_back_of {P:Program} {a:Act} {w:World} {Q:Exit→Act→World→Prop} {c rest:Code} (l:Nat) (J:Nat→Act→World→Prop) (hf:findLabel c l=some (Code.skip.seq rest))
  (pass:∀ m a w,J m a w→rest.wp P (Exit.jump l (fun a' w'=>∃ k,J k a' w'∧k<m) Q) a w)
  (first:Hid (∀ m a w,J m a w→rest.wp P (Exit.jump l (fun a' w'=>∃ k,J k a' w') Q) a w)→c.wp P (Exit.jump l (fun a' w'=>∃ k,J k a' w') Q) a w):(Code.scope c).wp P Q a w:=by
 refine wp_scope_back l (fun a w=>∃ k,J k a w) (fun a w=>leastOf fun k=>J k a w) hf (fun a w h=>?_) (fun H=>first fun m a w h=>H.out a w ⟨m,h⟩)
 refine wp_mono (pass _ a w (leastOf_at h)) fun e _ _ hq=>?_
 cases e <;> first
  | exact hq
  | (obtain ⟨he,k,hk,hlt⟩:=hq; exact ⟨he,⟨k,hk⟩,Nat.lt_of_le_of_lt (leastOf_le hk) hlt⟩)
end Go.Proofs.YtgfbflnhjpbceaaGreatDoor.Range
namespace Go.Proofs.YtgfbflnhjpbceaaGreatDoor.Range
open Num Ident Semver

def Alike {α:Type} (a b:Nat × α):Prop:=(a.1=0↔b.1=0)∧a.2=b.2
end Go.Proofs.YtgfbflnhjpbceaaGreatDoor.Range
namespace Go.Proofs.YtgfbflnhjpbceaaGreatDoor.Span
open Go.RowKit Num Ident Semver Prec

theorem sw1_anyD (x y:REdge) (w:World) (h1:Lies w x.cut) (h2:Lies w y.cut) :
  Calls Tryz.prog 83 #[.agg #[x.cut.kind,x.cut.v.a,x.cut.v.b,x.cut.v.c,.slice x.cut.A x.cut.v.pre.length x.cut.c,.slice x.cut.B x.cut.v.build.length x.cut.d,.int .i64 x.step],.agg #[y.cut.kind,y.cut.v.a,y.cut.v.b,y.cut.v.c,.slice y.cut.A y.cut.v.pre.length y.cut.c,.slice y.cut.B y.cut.v.build.length y.cut.d,.int .i64 y.step]] w fun e w'=>e=.returned (.int .i64 (stand x.cut.cut y.cut.cut))∧BelowD w.heap.size w w':=by
 have HBa:Hid (BelowD w.heap.size w ((w.alloc (.cells #[x.cut.kind,x.cut.v.a,x.cut.v.b,x.cut.v.c,.slice x.cut.A x.cut.v.pre.length x.cut.c,.slice x.cut.B x.cut.v.build.length x.cut.d,.int .i64 x.step] 111)).alloc (.cells #[y.cut.kind,y.cut.v.a,y.cut.v.b,y.cut.v.c,.slice y.cut.A y.cut.v.pre.length y.cut.c,.slice y.cut.B y.cut.v.build.length y.cut.d,.int .i64 y.step] 111))):=((BelowD.refl _ _).alloc (Nat.le_refl _) _).alloc (by simp) _
 have HL:=Lib.hid (h1.kept HBa.out.toBelow)
 have HM:=Lib.hid (h2.kept HBa.out.toBelow)
 have K0:Hid (At7B ((w.alloc (.cells #[x.cut.kind,x.cut.v.a,x.cut.v.b,x.cut.v.c,.slice x.cut.A x.cut.v.pre.length x.cut.c,.slice x.cut.B x.cut.v.build.length x.cut.d,.int .i64 x.step] 111)).alloc (.cells #[y.cut.kind,y.cut.v.a,y.cut.v.b,y.cut.v.c,.slice y.cut.A y.cut.v.pre.length y.cut.c,.slice y.cut.B y.cut.v.build.length y.cut.d,.int .i64 y.step] 111)) w.heap.size x.cut.kind x.cut.v.a x.cut.v.b x.cut.v.c (.slice x.cut.A x.cut.v.pre.length x.cut.c) (.slice x.cut.B x.cut.v.build.length x.cut.d) (.int .i64 x.step)):=(At7B.new w _ _ _ _ _ _ _ _).kept ((Below.refl _ _).alloc (Nat.le_refl _) _) (by simp)
 have J0:Hid (At7B ((w.alloc (.cells #[x.cut.kind,x.cut.v.a,x.cut.v.b,x.cut.v.c,.slice x.cut.A x.cut.v.pre.length x.cut.c,.slice x.cut.B x.cut.v.build.length x.cut.d,.int .i64 x.step] 111)).alloc (.cells #[y.cut.kind,y.cut.v.a,y.cut.v.b,y.cut.v.c,.slice y.cut.A y.cut.v.pre.length y.cut.c,.slice y.cut.B y.cut.v.build.length y.cut.d,.int .i64 y.step] 111)) (w.heap.size+1) y.cut.kind y.cut.v.a y.cut.v.b y.cut.v.c (.slice y.cut.A y.cut.v.pre.length y.cut.c) (.slice y.cut.B y.cut.v.build.length y.cut.d) (.int .i64 y.step)):=by
  have:=At7B.new (w.alloc (.cells #[x.cut.kind,x.cut.v.a,x.cut.v.b,x.cut.v.c,.slice x.cut.A x.cut.v.pre.length x.cut.c,.slice x.cut.B x.cut.v.build.length x.cut.d,.int .i64 x.step] 111)) 111 y.cut.kind y.cut.v.a y.cut.v.b y.cut.v.c (.slice y.cut.A y.cut.v.pre.length y.cut.c) (.slice y.cut.B y.cut.v.build.length y.cut.d) (.int .i64 y.step)
  rw [size_alloc] at this; exact this
 clear h1 h2
 go_enter Tryz.func83,Tryz.ntmps83
 go_upto_region 1 with (fail)
 generalize ((w.alloc (.cells #[x.cut.kind,x.cut.v.a,x.cut.v.b,x.cut.v.c,.slice x.cut.A x.cut.v.pre.length x.cut.c,.slice x.cut.B x.cut.v.build.length x.cut.d,.int .i64 x.step] 111)).alloc (.cells #[y.cut.kind,y.cut.v.a,y.cut.v.b,y.cut.v.c,.slice y.cut.A y.cut.v.pre.length y.cut.c,.slice y.cut.B y.cut.v.build.length y.cut.d,.int .i64 y.step] 111))=W at HBa HL HM K0 J0 ⊢
 obtain ⟨hz,_,x0,x1,x2,x3,x4,x5,x6⟩:=K0.out
 obtain ⟨hy,_,y0,y1,y2,y3,y4,y5,y6⟩:=J0.out
 go_wp2_with fail
 refine (stand_anyD x.cut y.cut _ HL.out HM.out).mono ?_
 rintro e w1 ⟨rfl,hb1⟩
 have B1:=Lib.hid (HBa.out.trans (hb1.mono HBa.out.size))
 clear hb1 x0 x1 x2 x3 x4 x5 x6 y0 y1 y2 y3 y4 y5 y6
 go_wp2
 go_ret
 exact ⟨rfl,B1.out⟩

theorem grow_of {w w':World} (h:BelowD w.heap.size w w'):∃ q os',w'=Go.Sort.grow (w.drewN q) os':=by
 obtain ⟨p,hp⟩:=regrown_of_below h.toBelow
 have hd:w'.drawn=p.d:=by rw [hp]; rfl
 have hle:=h.drawn
 refine ⟨p.d - w.drawn,p.os,?_⟩
 rw [hp]
 unfold Go.Sort.grow redrawn World.drewN
 simp only [World.mk.injEq,true_and,and_true]
 omega
structure Laid (w:World) where
 e:REdge
 h:Lies w e.cut
instance (w:World):Inhabited (Laid w):=⟨⟨⟨rlow,0⟩,Lies.low w⟩⟩
def encE (w:World) (x:Laid w):List Value:=x.e.vals
def cfE (w:World) (x y:Laid w):Int:=stand x.e.cut.cut y.e.cut.cut
theorem swoE (w:World):Go.Sort.SWO (ltOf (cfE w)):=by
 refine ⟨fun x=>?_,fun x y z h1 h2=>?_,fun x y z h1 h2=>?_⟩
 ·unfold ltOf cfE; rw [stand_self]; rfl
 ·unfold ltOf cfE at *; rw [decide_eq_true_eq] at *; exact lt_lt h1 h2
 ·unfold ltOf cfE at *
  rw [decide_eq_false_iff_not] at *
  have a:=not_lt h1
  have b:=not_lt h2
  exact le_not (le_le b a)
theorem below_sort {α:Type} [Inhabited α] (enc:α→List Value) (k:Nat) (w:World) (blk off m:Nat) (d:Array α) (os:Array Obj) (B:Nat) (hB:B≤blk) (hw:B≤w.heap.size):Below B w (sortWorldK enc k w blk off m d os):=by
 unfold sortWorldK Go.Sort.putRowK Go.Sort.putRow Go.Sort.mapBlock Go.Sort.grow Go.Sort.ahead
 refine ⟨rfl,rfl,rfl,by simp,fun i hi=>?_⟩
 rw [Array.getElem?_append_left (by simp; omega),Array.getElem?_modify,if_neg (by omega)]
theorem grown_sort {α:Type} [Inhabited α] (enc:α→List Value) (k:Nat) (w:World) (blk off m:Nat) (d:Array α) (os:Array Obj):w.grownBy (sortWorldK enc k w blk off m d os) (some blk):=by
 unfold sortWorldK Go.Sort.putRowK Go.Sort.putRow Go.Sort.mapBlock Go.Sort.grow Go.Sort.ahead
 refine ⟨rfl,rfl,rfl,by simp,fun i hi hne=>?_⟩
 rw [Array.getElem?_append_left (by simpa using hi),Array.getElem?_modify,if_neg (fun e=>hne (by rw [e]))]
theorem flatK_list {α:Type} [Inhabited α] (enc:α→List Value) (k:Nat) (hk:∀ x,(enc x).length=k) (h0:0<k) (d:Array α):(Go.Sort.flatK enc k d).toList=d.toList.flatMap enc:=by
 apply List.ext_getElem?
 intro t
 by_cases ht:t<d.size * k
 ·have hq:t / k<d.size:=Nat.div_lt_of_lt_mul (by rw [Nat.mul_comm]; exact ht)
  have hm:t % k<k:=Nat.mod_lt _ h0
  have e1:t=t / k * k+t % k:=by rw [Nat.mul_comm]; exact (Nat.div_add_mod t k).symm
  have e2:=flat_get enc k hk d.toList (t / k) (t % k) (by simpa using hq) hm
  rw [← e1] at e2
  rw [e2,Array.getElem?_toList,Array.getElem?_eq_getElem (by rw [Go.Sort.size_flatK]; exact ht)]
  have e3:=Go.Sort.get_flatK enc k d t ht
  rw [getElem!_pos _ t (by rw [Go.Sort.size_flatK]; exact ht)] at e3
  rw [e3]
  have e4:d.toList.getD (t / k) default=d[t / k]!:=by
   rw [getElem!_pos d _ hq]; simp [List.getD,hq]
  rw [e4,getElem!_pos _ (t % k) (by rw [hk]; exact hm),List.getElem?_eq_getElem]
 ·rw [List.getElem?_eq_none (by simp [Go.Sort.size_flatK]; omega),List.getElem?_eq_none (by rw [flat_len _ k hk]; simp; omega)]

theorem cmpLays (w1 w:World) (blk n:Nat) (hb:Below w1.heap.size w1 w) (hblk:w1.heap.size≤blk):CmpLays Tryz.prog 83 #[] (encE w1) 7 (cfE w1) blk 0 n w:=by
 intro m os dk _ x y
 have hB:Below w1.heap.size w1 (sortWorldK (encE w1) 7 w blk 0 m dk os):=hb.trans (below_sort _ _ _ _ _ _ _ _ _ hblk hb.size)
 generalize sortWorldK (encE w1) 7 w blk 0 m dk os=W at hB ⊢
 have h:=sw1_anyD x.e y.e W (x.h.kept hB) (y.h.kept hB)
 rw [Array.append_empty]
 exact h.mono fun e w' ⟨he,hw⟩=>⟨he,grow_of hw⟩
def SortPost (w:World) (base:Nat) (v:Value) (re:List REdge) (e:Ending) (w':World):Prop :=
 e=.returned (.tuple #[])∧∃ re':List REdge,re'.Perm re∧(re'.Pairwise fun x y=>stand x.cut.cut y.cut.cut≤0)∧w'.ownsRow base 111 7 v re'.length (re'.flatMap REdge.vals)∧w.grownBy w' v.ownBlock

theorem sort_any (w1 w:World) (base:Nat) (v:Value) (re:List REdge) (hown:w.ownsRow base 111 7 v re.length (re.flatMap REdge.vals)) (hl:∀ e ∈ re,Lies w1 e.cut) (hb:Below w1.heap.size w1 w) (hbase:w1.heap.size≤base) (hsz:re.length<4611686018427387904) :
  Calls Tryz.prog 82 #[v,.func (.func 83) #[] #[]] w (SortPost w base v re):=by
 have hown0:=hown
 obtain ⟨hlen,h2⟩:=hown
 rcases h2 with ⟨rfl,h0⟩ | ⟨g,cap,cur,rfl,hg0,hg,hnc,hcm,hcs,htk⟩
 ·have hre:re=[]:=List.eq_nil_of_length_eq_zero h0
  subst hre
  exact (AnyF.slices_SortFunc_none Tryz.sortL none 0 (.func (.func 83) #[] #[]) w).mono fun e w' ⟨he,hw⟩=>by
   subst hw
   exact ⟨he,[],List.Perm.refl _,List.Pairwise.nil,hown0,World.grownBy.refl _ _⟩
 ·obtain ⟨d,hd⟩:∃ d:Array (Laid w1),d.toList.map Laid.e=re:=⟨(re.pmap (fun e h=>(⟨e,h⟩:Laid w1)) hl).toArray,by simp [List.map_pmap]⟩
  have hdn:d.size=re.length:=by rw [← hd]; simp
  have hk:∀ x:Laid w1,(encE w1 x).length=7:=fun _=>rfl
  have hF:(Go.Sort.flatK (encE w1) 7 d).toList=re.flatMap REdge.vals:=by
   rw [flatK_list _ 7 hk (by omega),← hd,List.flatMap_map]; rfl
  have hgl:g<w.heap.size:=(Array.getElem?_eq_some_iff.1 hg).1
  have hH:Go.Sort.HoldsK (encE w1) 7 w g 0 d:=by
   intro j hj
   rw [Go.Sort.size_flatK,hdn] at hj
   have hj2:j<(Go.Sort.flatK (encE w1) 7 d).size:=by rw [Go.Sort.size_flatK,hdn]; exact hj
   refine ⟨?_,by simp [World.frozen?,hg]⟩
   have e1:=hown0.cells (g:=g) rfl j _ (by rw [← hF,Array.getElem?_toList]; exact Array.getElem?_eq_getElem hj2)
   rw [add_none] at e1
   rw [e1,getElem!_pos _ j hj2]; rfl
  have hcon:=AnyQ.slices_SortFunc Tryz.sortL 7 Tryz.isAgg111 Tryz.sizeOf111 (encE w1) hk (fun x u hu=>evals_one x.e u hu) (cfE w1) (swoE w1) 83 #[] g 0 cap d w (enters_of Tryz.func83 (by kernel_rfl) rfl) (cmpLays w1 w g d.size hb (Nat.le_trans hbase hg0)) hH hgl (by rw [hdn]; exact hsz)
  rw [hdn] at hcon
  refine hcon.mono fun e w' ⟨he,d',m,os,hp,hs,hw⟩=>⟨he,d'.toList.map Laid.e,?_,?_,?_,?_⟩
  ·have h1:=hp.2.2
   rw [← hdn,Array.extract_size] at h1
   have h3:(d'.extract 0 d.size)=d':=by rw [← hp.1,Array.extract_size]
   rw [h3] at h1
   rw [← hd]; exact h1.map _
  ·rw [List.pairwise_map,List.pairwise_iff_getElem]
   intro i j hi hj hij
   have hi':i<d'.size:=by simpa using hi
   have hj':j<d'.size:=by simpa using hj
   have h1:=hs i j (Nat.zero_le _) hij (by rw [← hdn,← hp.1]; exact hj')
   unfold ltOf cfE at h1
   rw [decide_eq_false_iff_not,getElem!_pos d' i hi',getElem!_pos d' j hj'] at h1
   simpa using not_lt h1
  ·have hsz':(Go.Sort.flatK (encE w1) 7 d').size=re.length * 7:=by rw [Go.Sort.size_flatK,hp.1,hdn]
   have hF':(Go.Sort.flatK (encE w1) 7 d').toList=(d'.toList.map Laid.e).flatMap REdge.vals:=by
    rw [flatK_list _ 7 hk (by omega),List.flatMap_map]; rfl
   have hl':(d'.toList.map Laid.e).length=re.length:=by rw [List.length_map,Array.length_toList,hp.1,hdn]
   rw [hl',← hF']
   refine ⟨by rw [Array.length_toList]; exact hsz',.inr ⟨g,cap,Go.Sort.putCells id 0 (Go.Sort.flatK (encE w1) 7 d') cur,rfl,hg0,?_,hnc,hcm,by unfold Go.Sort.putCells; rw [Array.size_mapIdx]; exact hcs,?_⟩⟩
   ·rw [hw]
    unfold sortWorldK Go.Sort.putRowK Go.Sort.putRow Go.Sort.mapBlock Go.Sort.grow Go.Sort.ahead
    show ((w.heap.modify g _) ++ os)[g]?=_
    rw [Array.getElem?_append_left (by simpa using hgl),Array.getElem?_modify,if_pos rfl,hg]; rfl
   ·apply List.ext_getElem?
    intro t
    have hcs':re.length * 7≤cur.size:=by rw [hcs]; exact Nat.mul_le_mul_right 7 hnc
    by_cases ht:t<re.length * 7
    ·rw [List.getElem?_take_of_lt ht,Array.getElem?_toList,Array.getElem?_toList]
     unfold Go.Sort.putCells
     rw [Array.getElem?_mapIdx,Array.getElem?_eq_getElem (show t<cur.size by omega),Array.getElem?_eq_getElem (show t<(Go.Sort.flatK (encE w1) 7 d').size by omega)]
     simp only [Option.map_some]
     rw [if_pos ⟨Nat.zero_le _,by omega⟩,Nat.sub_zero,getElem!_pos _ t (by omega)]; rfl
    ·rw [List.getElem?_eq_none (by rw [List.length_take]; omega),List.getElem?_eq_none (by rw [Array.length_toList,hsz']; omega)]
  ·rw [hw]; exact grown_sort _ _ _ _ _ _ _ _
end Go.Proofs.YtgfbflnhjpbceaaGreatDoor.Span
