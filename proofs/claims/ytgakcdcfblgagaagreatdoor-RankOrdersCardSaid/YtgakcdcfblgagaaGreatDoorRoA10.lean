/-
  What the theorem of the last text needs of these: PrEnds, SvBack, SpMem. Conditions: as each theorem states.
-/
import Derived.Test.YtgakcdcfblgagaaGreatDoorRoA1
import Derived.Test.YtgakcdcfblgagaaGreatDoorRoA2
import Derived.Test.YtgakcdcfblgagaaGreatDoorRoA7
import Derived.Test.YtgakcdcfblgagaaGreatDoorRoA8
import Derived.Test.YtgakcdcfblgagaaGreatDoorRoA9
import Derived.Lib.SliceRun
import Derived.Deep.CutBlock
import Derived.Deep.DeepCutAuto
set_option maxRecDepth 100000
set_option maxHeartbeats 25600000
namespace Go.Proofs.YtgakcdcfblgagaaGreatDoor.Prec
open Go.RowKit Num Ident Semver

def FirstPost (w:World) (x:Ver) (e:Ending) (w':World):Prop :=
 ∃ A c,e=.returned (.agg #[x.a,x.b,x.c,.slice A x.pre.length c,.slice none x.build.length 0])∧SRow w' A x.pre.length x.pre∧x.build=[]∧Below w.heap.size w w'
def EndPost (w:World) (o:Option Ver) (e:Ending) (w':World):Prop :=
 ∃ A c,e=.returned (.tuple #[.agg #[.int .u64 ((verOf o).a),.int .u64 ((verOf o).b),.int .u64 ((verOf o).c),.slice A (verOf o).pre.length c,.slice none (verOf o).build.length 0],.bool o.isSome])∧SRow w' A (verOf o).pre.length (verOf o).pre∧(verOf o).build=[]∧Below w.heap.size w w'

theorem zeroU:∀ w,(zeroValue 34).run Tryz.prog w=.ok (.int .u64 0) w:=fun w=>by kernel_rfl
theorem clear2 (W:World) (b:Nat) (u0 u1 u2:Value) (h:At3 W b u0 u1 u2) (ty:TypeId) :
  (Builtin.clear_ #[324] ty #[.slice (some ⟨b,1,none⟩) 2 2]).run Tryz.prog W=.ok (.tuple #[]) ((W.setCell ⟨b,1,none⟩ (.int .u64 0)).setCell ⟨b,2,none⟩ (.int .u64 0)) :=
 Lib.run_clear_slice W 324 34 ty (.int .u64 0) Tryz.underlying324 zeroU rfl rfl b 1 2 2 (by omega) (fun j hj=>by
  obtain ⟨_,_,c0,c1,c2⟩:=h
  match j,hj with
  | 0,_=>rw [show (1+0)=1 from rfl,c1]; rfl
  | 1,_=>rw [show (1+1)=2 from rfl,c2]; rfl) (fun j _=>h.2.1 _)
theorem clear1 (W:World) (b:Nat) (u0 u1 u2:Value) (h:At3 W b u0 u1 u2) (ty:TypeId) :
  (Builtin.clear_ #[324] ty #[.slice (some ⟨b,2,none⟩) 1 1]).run Tryz.prog W=.ok (.tuple #[]) (W.setCell ⟨b,2,none⟩ (.int .u64 0)) :=
 Lib.run_clear_slice W 324 34 ty (.int .u64 0) Tryz.underlying324 zeroU rfl rfl b 2 1 1 (by omega) (fun j hj=>by
  obtain ⟨_,_,c0,c1,c2⟩:=h
  match j,hj with
  | 0,_=>rw [show (2+0)=2 from rfl,c2]; rfl) (fun j _=>h.2.1 _)
theorem clear0 (W:World) (A:Option Addr) (ty:TypeId) :
  (Builtin.clear_ #[324] ty #[.slice A 0 0]).run Tryz.prog W=.ok (.tuple #[]) W:=by
 cases A <;> simp [Builtin.clear_,run_underlying Tryz.underlying324]

def FirstZ (w:World) (p q r:Int) (e:Ending) (w':World):Prop :=
 ∃ A,e=.returned (.agg #[.int .u64 p,.int .u64 q,.int .u64 r,.slice A 1 1,.slice none 0 0])∧SRow w' A 1 [[48]]∧Below w.heap.size w w'
def EndZ (w:World) (p q r:Int) (e:Ending) (w':World):Prop :=
 ∃ A,e=.returned (.tuple #[.agg #[.int .u64 p,.int .u64 q,.int .u64 r,.slice A 1 1,.slice none 0 0],.bool true])∧SRow w' A 1 [[48]]∧Below w.heap.size w w'
def NoneZ (w:World) (e:Ending) (w':World):Prop :=
 e=.returned (.tuple #[.agg #[.int .u64 0,.int .u64 0,.int .u64 0,.slice none 0 0,.slice none 0 0],.bool false])∧Below w.heap.size w w'

theorem first_int (p q r:Int) (w:World) :
  Calls Tryz.prog 273 #[.int .u64 p,.int .u64 q,.int .u64 r] w (FirstZ w p q r):=by
 go_enter Tryz.func273,Tryz.ntmps273
 go_wp2
 refine bodyPost_ret (v:=.agg #[.int .u64 p,.int .u64 q,.int .u64 r,.slice (some ⟨w.heap.size+1,0,none⟩) 1 1,.slice none 0 0]) (by simp [results,Tryz.results273,go_sem]) rfl ?_
 refine ⟨some ⟨w.heap.size+1,0,none⟩,rfl,?_,((Below.refl _ _).alloc (Nat.le_refl _) _).alloc (by simp) _⟩
 have:=SRow.one (w.alloc (.cells #[.int .u64 p,.int .u64 q,.int .u64 r,.slice (some ⟨w.heap.size+1,0,none⟩) 1 1,.slice none 0 0] 37)) [48]
 rw [size_alloc] at this; exact this

/-! The end at each place. -/

theorem At5.beside {W:World} {b b' o:Nat} {u0 u1 u2 u3 u4:Value} (h:At5 W b u0 u1 u2 u3 u4) (hb:b≠b') (v:Value):At5 (W.setCell ⟨b',o,none⟩ v) b u0 u1 u2 u3 u4:=by
 obtain ⟨h1,h2,c0,c1,c2,c3,c4⟩:=h
 have k:∀ j,(W.setCell ⟨b',o,none⟩ v).cell? ⟨b,j,none⟩=W.cell? ⟨b,j,none⟩:=fun j=>World.cell?_setCell_other _ _ _ _ (by intro e; injection e with e; exact hb e.symm)
 exact ⟨by simpa using h1,fun o=>by simp [go_sem,h2],(k 0).trans c0,(k 1).trans c1,(k 2).trans c2,(k 3).trans c3,(k 4).trans c4⟩

theorem endAt0 (p q r:Int) (w:World) (h0:0≤p) (h1:p<9223372036854775807) :
  Calls Tryz.prog 251 #[.agg #[.int .u64 p,.int .u64 q,.int .u64 r],.int .i64 0] w (EndZ w (p+1) 0 0):=by
 have HB0:Hid (Below w.heap.size w ((w.alloc (.cells #[.int .u64 (p+1),.int .u64 q,.int .u64 r] 250)).alloc false)):=((Below.refl _ _).alloc (Nat.le_refl _) _).alloc (by simp) _
 have K1:Hid (At3 ((w.alloc (.cells #[.int .u64 (p+1),.int .u64 q,.int .u64 r] 250)).alloc false) w.heap.size (.int .u64 (p+1)) (.int .u64 q) (.int .u64 r)):=(At3.new w 250 _ _ _).kept ((Below.refl _ _).alloc (Nat.le_refl _) _) (by simp)
 have K2:Hid (At5 ((w.alloc (.cells #[.int .u64 (p+1),.int .u64 q,.int .u64 r] 250)).alloc false) (w.heap.size+1) (.int .u64 0) (.int .u64 0) (.int .u64 0) (.slice none 0 0) (.slice none 0 0)):=by
  have:=At5.new (w.alloc (.cells #[.int .u64 (p+1),.int .u64 q,.int .u64 r] 250)) 37 (.int .u64 0) (.int .u64 0) (.int .u64 0) (.slice none 0 0) (.slice none 0 0)
  rw [size_alloc] at this; exact this
 go_enter Tryz.func251,Tryz.ntmps251
 go_upto_region 4 with (fail)
 generalize ((w.alloc (.cells #[.int .u64 (p+1),.int .u64 q,.int .u64 r] 250)).alloc false)=W at HB0 K1 K2 ⊢
 have hcl:=clear2 W w.heap.size _ _ _ K1.out
 go_upto_region 5 with (simp only [hcl])
 have L1:Hid (At3 ((W.setCell ⟨w.heap.size,1,none⟩ (.int .u64 0)).setCell ⟨w.heap.size,2,none⟩ (.int .u64 0)) w.heap.size (.int .u64 (p+1)) (.int .u64 0) (.int .u64 0)):=(At3.set2 (At3.set1 K1.out (.int .u64 0)) (.int .u64 0))
 have L2:Hid (At5 ((W.setCell ⟨w.heap.size,1,none⟩ (.int .u64 0)).setCell ⟨w.heap.size,2,none⟩ (.int .u64 0)) (w.heap.size+1) (.int .u64 0) (.int .u64 0) (.int .u64 0) (.slice none 0 0) (.slice none 0 0)):=(At5.beside (At5.beside K2.out (b':=w.heap.size) (o:=1) (by omega) (.int .u64 0)) (b':=w.heap.size) (o:=2) (by omega) (.int .u64 0))
 have B1:Hid (Below w.heap.size w ((W.setCell ⟨w.heap.size,1,none⟩ (.int .u64 0)).setCell ⟨w.heap.size,2,none⟩ (.int .u64 0))):=((HB0.out.setCell (by simp) _).setCell (by simp) _)
 generalize ((W.setCell ⟨w.heap.size,1,none⟩ (.int .u64 0)).setCell ⟨w.heap.size,2,none⟩ (.int .u64 0))=W1 at L1 L2 B1 ⊢
 clear hcl
 clear K1 K2 HB0
 obtain ⟨hz1,_,x0,x1,x2⟩:=L1.out
 obtain ⟨hz2,_,y0,y1,y2,y3,y4⟩:=L2.out
 go_wp2_with fail
 refine (first_int _ _ _ _).mono ?_
 rintro e w3 ⟨A,rfl,hr,hb3⟩
 have N2:=Lib.hid (L2.out.kept hb3 hz2)
 have B3:=Lib.hid (B1.out.trans (hb3.mono (by omega)))
 obtain ⟨hz3,hf,g0,g1,g2,g3,g4⟩:=N2.out
 have R:=Lib.hid (hr.set5 g0 g1 g2 g3 g4 (by simp) (by simp) (by simp) (by simp) (by simp) (.int .u64 (p+1)) (.int .u64 0) (.int .u64 0) (.slice A 1 1) (.slice none 0 0))
 have B4:Hid (Below w.heap.size w (set5 w3 (w.heap.size+1) (.int .u64 (p+1)) (.int .u64 0) (.int .u64 0) (.slice A 1 1) (.slice none 0 0))):=(((((B3.out.setCell (by simp) _).setCell (by simp) _).setCell (by simp) _).setCell (by simp) _).setCell (by simp) _)
 have N3:=Lib.hid (N2.out.set5 (.int .u64 (p+1)) (.int .u64 0) (.int .u64 0) (.slice A 1 1) (.slice none 0 0))
 clear hr hb3 x0 x1 x2 y0 y1 y2 y3 y4
 unfold set5 at B4 N3
 go_wp2
 generalize (((((w3.setCell ⟨w.heap.size+1,0,none⟩ (.int .u64 (p+1))).setCell ⟨w.heap.size+1,1,none⟩ (.int .u64 0)).setCell ⟨w.heap.size+1,2,none⟩ (.int .u64 0)).setCell ⟨w.heap.size+1,3,none⟩ (.slice A 1 1)).setCell ⟨w.heap.size+1,4,none⟩ (.slice none 0 0))=w4 at R B4 N3 ⊢
 obtain ⟨_,_,z0,z1,z2,z3,z4⟩:=N3.out
 exact bodyPost_ret (v:=.tuple #[.agg #[.int .u64 (p+1),.int .u64 0,.int .u64 0,.slice A 1 1,.slice none 0 0],.bool true]) (by simp [results,Tryz.results251,go_sem,z0,z1,z2,z3,z4]) rfl ⟨A,rfl,R.out,B4.out⟩

theorem endNo0 (p q r:Int) (w:World) (h1:9223372036854775807≤p) :
  Calls Tryz.prog 251 #[.agg #[.int .u64 p,.int .u64 q,.int .u64 r],.int .i64 0] w (NoneZ w):=by
 have HB0:Hid (Below w.heap.size w ((w.alloc (.cells #[.int .u64 p,.int .u64 q,.int .u64 r] 250)).alloc false)):=((Below.refl _ _).alloc (Nat.le_refl _) _).alloc (by simp) _
 go_enter Tryz.func251,Tryz.ntmps251
 go_wp2
 exact bodyPost_ret (v:=.tuple #[.agg #[.int .u64 0,.int .u64 0,.int .u64 0,.slice none 0 0,.slice none 0 0],.bool false]) (by simp [results,Tryz.results251,go_sem]) rfl ⟨rfl,HB0.out⟩

theorem endAt1 (p q r:Int) (w:World) (h0:0≤q) (h1:q<9223372036854775807) :
  Calls Tryz.prog 251 #[.agg #[.int .u64 p,.int .u64 q,.int .u64 r],.int .i64 1] w (EndZ w p (q+1) 0):=by
 have HB0:Hid (Below w.heap.size w ((w.alloc (.cells #[.int .u64 p,.int .u64 (q+1),.int .u64 r] 250)).alloc false)):=((Below.refl _ _).alloc (Nat.le_refl _) _).alloc (by simp) _
 have K1:Hid (At3 ((w.alloc (.cells #[.int .u64 p,.int .u64 (q+1),.int .u64 r] 250)).alloc false) w.heap.size (.int .u64 p) (.int .u64 (q+1)) (.int .u64 r)):=(At3.new w 250 _ _ _).kept ((Below.refl _ _).alloc (Nat.le_refl _) _) (by simp)
 have K2:Hid (At5 ((w.alloc (.cells #[.int .u64 p,.int .u64 (q+1),.int .u64 r] 250)).alloc false) (w.heap.size+1) (.int .u64 0) (.int .u64 0) (.int .u64 0) (.slice none 0 0) (.slice none 0 0)):=by
  have:=At5.new (w.alloc (.cells #[.int .u64 p,.int .u64 (q+1),.int .u64 r] 250)) 37 (.int .u64 0) (.int .u64 0) (.int .u64 0) (.slice none 0 0) (.slice none 0 0)
  rw [size_alloc] at this; exact this
 go_enter Tryz.func251,Tryz.ntmps251
 go_upto_region 4 with (fail)
 generalize ((w.alloc (.cells #[.int .u64 p,.int .u64 (q+1),.int .u64 r] 250)).alloc false)=W at HB0 K1 K2 ⊢
 have hcl:=clear1 W w.heap.size _ _ _ K1.out
 go_upto_region 5 with (simp only [hcl])
 have L1:Hid (At3 (W.setCell ⟨w.heap.size,2,none⟩ (.int .u64 0)) w.heap.size (.int .u64 p) (.int .u64 (q+1)) (.int .u64 0)):=(At3.set2 K1.out (.int .u64 0))
 have L2:Hid (At5 (W.setCell ⟨w.heap.size,2,none⟩ (.int .u64 0)) (w.heap.size+1) (.int .u64 0) (.int .u64 0) (.int .u64 0) (.slice none 0 0) (.slice none 0 0)):=(At5.beside K2.out (b':=w.heap.size) (o:=2) (by omega) (.int .u64 0))
 have B1:Hid (Below w.heap.size w (W.setCell ⟨w.heap.size,2,none⟩ (.int .u64 0))):=(HB0.out.setCell (by simp) _)
 generalize (W.setCell ⟨w.heap.size,2,none⟩ (.int .u64 0))=W1 at L1 L2 B1 ⊢
 clear hcl
 clear K1 K2 HB0
 obtain ⟨hz1,_,x0,x1,x2⟩:=L1.out
 obtain ⟨hz2,_,y0,y1,y2,y3,y4⟩:=L2.out
 go_wp2_with fail
 refine (first_int _ _ _ _).mono ?_
 rintro e w3 ⟨A,rfl,hr,hb3⟩
 have N2:=Lib.hid (L2.out.kept hb3 hz2)
 have B3:=Lib.hid (B1.out.trans (hb3.mono (by omega)))
 obtain ⟨hz3,hf,g0,g1,g2,g3,g4⟩:=N2.out
 have R:=Lib.hid (hr.set5 g0 g1 g2 g3 g4 (by simp) (by simp) (by simp) (by simp) (by simp) (.int .u64 p) (.int .u64 (q+1)) (.int .u64 0) (.slice A 1 1) (.slice none 0 0))
 have B4:Hid (Below w.heap.size w (set5 w3 (w.heap.size+1) (.int .u64 p) (.int .u64 (q+1)) (.int .u64 0) (.slice A 1 1) (.slice none 0 0))):=(((((B3.out.setCell (by simp) _).setCell (by simp) _).setCell (by simp) _).setCell (by simp) _).setCell (by simp) _)
 have N3:=Lib.hid (N2.out.set5 (.int .u64 p) (.int .u64 (q+1)) (.int .u64 0) (.slice A 1 1) (.slice none 0 0))
 clear hr hb3 x0 x1 x2 y0 y1 y2 y3 y4
 unfold set5 at B4 N3
 go_wp2
 generalize (((((w3.setCell ⟨w.heap.size+1,0,none⟩ (.int .u64 p)).setCell ⟨w.heap.size+1,1,none⟩ (.int .u64 (q+1))).setCell ⟨w.heap.size+1,2,none⟩ (.int .u64 0)).setCell ⟨w.heap.size+1,3,none⟩ (.slice A 1 1)).setCell ⟨w.heap.size+1,4,none⟩ (.slice none 0 0))=w4 at R B4 N3 ⊢
 obtain ⟨_,_,z0,z1,z2,z3,z4⟩:=N3.out
 exact bodyPost_ret (v:=.tuple #[.agg #[.int .u64 p,.int .u64 (q+1),.int .u64 0,.slice A 1 1,.slice none 0 0],.bool true]) (by simp [results,Tryz.results251,go_sem,z0,z1,z2,z3,z4]) rfl ⟨A,rfl,R.out,B4.out⟩

theorem endNo1 (p q r:Int) (w:World) (h1:9223372036854775807≤q) :
  Calls Tryz.prog 251 #[.agg #[.int .u64 p,.int .u64 q,.int .u64 r],.int .i64 1] w (NoneZ w):=by
 have HB0:Hid (Below w.heap.size w ((w.alloc (.cells #[.int .u64 p,.int .u64 q,.int .u64 r] 250)).alloc false)):=((Below.refl _ _).alloc (Nat.le_refl _) _).alloc (by simp) _
 go_enter Tryz.func251,Tryz.ntmps251
 go_wp2
 exact bodyPost_ret (v:=.tuple #[.agg #[.int .u64 0,.int .u64 0,.int .u64 0,.slice none 0 0,.slice none 0 0],.bool false]) (by simp [results,Tryz.results251,go_sem]) rfl ⟨rfl,HB0.out⟩

theorem endAt2 (p q r:Int) (w:World) (h0:0≤r) (h1:r<9223372036854775807) :
  Calls Tryz.prog 251 #[.agg #[.int .u64 p,.int .u64 q,.int .u64 r],.int .i64 2] w (EndZ w p q (r+1)):=by
 have HB0:Hid (Below w.heap.size w ((w.alloc (.cells #[.int .u64 p,.int .u64 q,.int .u64 (r+1)] 250)).alloc false)):=((Below.refl _ _).alloc (Nat.le_refl _) _).alloc (by simp) _
 have K1:Hid (At3 ((w.alloc (.cells #[.int .u64 p,.int .u64 q,.int .u64 (r+1)] 250)).alloc false) w.heap.size (.int .u64 p) (.int .u64 q) (.int .u64 (r+1))):=(At3.new w 250 _ _ _).kept ((Below.refl _ _).alloc (Nat.le_refl _) _) (by simp)
 have K2:Hid (At5 ((w.alloc (.cells #[.int .u64 p,.int .u64 q,.int .u64 (r+1)] 250)).alloc false) (w.heap.size+1) (.int .u64 0) (.int .u64 0) (.int .u64 0) (.slice none 0 0) (.slice none 0 0)):=by
  have:=At5.new (w.alloc (.cells #[.int .u64 p,.int .u64 q,.int .u64 (r+1)] 250)) 37 (.int .u64 0) (.int .u64 0) (.int .u64 0) (.slice none 0 0) (.slice none 0 0)
  rw [size_alloc] at this; exact this
 go_enter Tryz.func251,Tryz.ntmps251
 go_upto_region 4 with (fail)
 generalize ((w.alloc (.cells #[.int .u64 p,.int .u64 q,.int .u64 (r+1)] 250)).alloc false)=W at HB0 K1 K2 ⊢
 have hcl:=clear0 W
 go_upto_region 5 with (simp only [hcl])
 have L1:=K1
 have L2:=K2
 have B1:=HB0
 have:∃ W1,W1=W:=⟨_,rfl⟩
 obtain ⟨W1,hW1⟩:=this
 rw [← hW1] at L1 L2 B1 ⊢
 clear hW1
 clear hcl
 clear K1 K2 HB0
 obtain ⟨hz1,_,x0,x1,x2⟩:=L1.out
 obtain ⟨hz2,_,y0,y1,y2,y3,y4⟩:=L2.out
 go_wp2_with fail
 refine (first_int _ _ _ _).mono ?_
 rintro e w3 ⟨A,rfl,hr,hb3⟩
 have N2:=Lib.hid (L2.out.kept hb3 hz2)
 have B3:=Lib.hid (B1.out.trans (hb3.mono (by omega)))
 obtain ⟨hz3,hf,g0,g1,g2,g3,g4⟩:=N2.out
 have R:=Lib.hid (hr.set5 g0 g1 g2 g3 g4 (by simp) (by simp) (by simp) (by simp) (by simp) (.int .u64 p) (.int .u64 q) (.int .u64 (r+1)) (.slice A 1 1) (.slice none 0 0))
 have B4:Hid (Below w.heap.size w (set5 w3 (w.heap.size+1) (.int .u64 p) (.int .u64 q) (.int .u64 (r+1)) (.slice A 1 1) (.slice none 0 0))):=(((((B3.out.setCell (by simp) _).setCell (by simp) _).setCell (by simp) _).setCell (by simp) _).setCell (by simp) _)
 have N3:=Lib.hid (N2.out.set5 (.int .u64 p) (.int .u64 q) (.int .u64 (r+1)) (.slice A 1 1) (.slice none 0 0))
 clear hr hb3 x0 x1 x2 y0 y1 y2 y3 y4
 unfold set5 at B4 N3
 go_wp2
 generalize (((((w3.setCell ⟨w.heap.size+1,0,none⟩ (.int .u64 p)).setCell ⟨w.heap.size+1,1,none⟩ (.int .u64 q)).setCell ⟨w.heap.size+1,2,none⟩ (.int .u64 (r+1))).setCell ⟨w.heap.size+1,3,none⟩ (.slice A 1 1)).setCell ⟨w.heap.size+1,4,none⟩ (.slice none 0 0))=w4 at R B4 N3 ⊢
 obtain ⟨_,_,z0,z1,z2,z3,z4⟩:=N3.out
 exact bodyPost_ret (v:=.tuple #[.agg #[.int .u64 p,.int .u64 q,.int .u64 (r+1),.slice A 1 1,.slice none 0 0],.bool true]) (by simp [results,Tryz.results251,go_sem,z0,z1,z2,z3,z4]) rfl ⟨A,rfl,R.out,B4.out⟩

theorem endNo2 (p q r:Int) (w:World) (h1:9223372036854775807≤r) :
  Calls Tryz.prog 251 #[.agg #[.int .u64 p,.int .u64 q,.int .u64 r],.int .i64 2] w (NoneZ w):=by
 have HB0:Hid (Below w.heap.size w ((w.alloc (.cells #[.int .u64 p,.int .u64 q,.int .u64 r] 250)).alloc false)):=((Below.refl _ _).alloc (Nat.le_refl _) _).alloc (by simp) _
 go_enter Tryz.func251,Tryz.ntmps251
 go_wp2
 exact bodyPost_ret (v:=.tuple #[.agg #[.int .u64 0,.int .u64 0,.int .u64 0,.slice none 0 0,.slice none 0 0],.bool false]) (by simp [results,Tryz.results251,go_sem]) rfl ⟨rfl,HB0.out⟩
end Go.Proofs.YtgakcdcfblgagaaGreatDoor.Prec
namespace Go.Proofs.YtgakcdcfblgagaaGreatDoor.Semver
open Num Ident


/-! What is read. -/

theorem goodFrom_bound {pre:Bool}:∀ (xs:List (List UInt8)) (i:Nat),goodFrom pre xs i=true→(xs≠[]→xs.length+i≤16)∧∀ x ∈ xs,x.length≤255
 | [],_,_=>⟨fun h=>absurd rfl h,by simp⟩
 | x :: r,i,h=>by
  rw [goodFrom,Bool.and_eq_true,Bool.and_eq_true,beq_iff_eq,beq_iff_eq] at h
  have hf:=fault_pos h.1.1
  have ih:=goodFrom_bound r (i+1) h.2
  refine ⟨fun _=>?_,fun y hy=>?_⟩
  ·by_cases hr:r=[]
   ·subst hr; simp; omega
   ·have:=ih.1 hr
    rw [List.length_cons]; omega
  ·rcases List.mem_cons.1 hy with rfl | hy
   ·exact hf.2.1
   ·exact ih.2 y hy

end Go.Proofs.YtgakcdcfblgagaaGreatDoor.Semver
namespace Go.Proofs.YtgakcdcfblgagaaGreatDoor.Span
open Go.RowKit Num Ident Semver Prec

structure RCut where
 kind:Int
 v:Ver
 A:Option Addr
 c:Nat
 B:Option Addr
 d:Nat
instance:Coe RCut Obj:=⟨fun x=>.cells #[.int .i64 x.kind,.int .u64 x.v.a,.int .u64 x.v.b,.int .u64 x.v.c,.slice x.A x.v.pre.length x.c,.slice x.B x.v.build.length x.d] 193⟩
instance:Coe RCut Value:=⟨fun x=>.agg #[.int .i64 x.kind,.int .u64 x.v.a,.int .u64 x.v.b,.int .u64 x.v.c,.slice x.A x.v.pre.length x.c,.slice x.B x.v.build.length x.d]⟩
instance (x y:RCut):CoeDep (RCut × RCut) (x,y) Value:=⟨.agg #[.int .i64 x.kind,.int .u64 x.v.a,.int .u64 x.v.b,.int .u64 x.v.c,.slice x.A x.v.pre.length x.c,.slice x.B x.v.build.length x.d,.int .i64 y.kind,.int .u64 y.v.a,.int .u64 y.v.b,.int .u64 y.v.c,.slice y.A y.v.pre.length y.c,.slice y.B y.v.build.length y.d]⟩
instance (x y:RCut):CoeDep (RCut × RCut) (x,y) Obj:=⟨.cells #[.int .i64 x.kind,.int .u64 x.v.a,.int .u64 x.v.b,.int .u64 x.v.c,.slice x.A x.v.pre.length x.c,.slice x.B x.v.build.length x.d,.int .i64 y.kind,.int .u64 y.v.a,.int .u64 y.v.b,.int .u64 y.v.c,.slice y.A y.v.pre.length y.c,.slice y.B y.v.build.length y.d] 196⟩
instance (x:Ver) (A B:Option Addr) (c d:Nat):CoeDep (Ver × Option Addr × Nat × Option Addr × Nat) (x,A,c,B,d) Obj:=⟨.cells #[.int .u64 x.a,.int .u64 x.b,.int .u64 x.c,.slice A x.pre.length c,.slice B x.build.length d] 37⟩
def RCut.cut (r:RCut):Cut:=⟨r.kind,r.v⟩
structure RSp where
 lo:RCut
 hi:RCut
def RSp.sp (s:RSp):Sp:=⟨s.lo.cut,s.hi.cut⟩
structure REdge where
 cut:RCut
 step:Int
def REdge.edge (e:REdge):Edge:=⟨e.cut.cut,e.step⟩
def rlow:RCut:=⟨0,noVer,none,0,none,0⟩
def rhigh:RCut:=⟨3,noVer,none,0,none,0⟩
instance:Inhabited RSp:=⟨⟨rlow,rlow⟩⟩
instance:Inhabited REdge:=⟨⟨rlow,0⟩⟩
def RCut.vals (r:RCut):List Value:=[.int .i64 r.kind,.int .u64 r.v.a,.int .u64 r.v.b,.int .u64 r.v.c,.slice r.A r.v.pre.length r.c,.slice r.B r.v.build.length r.d]
def RSp.vals (s:RSp):List Value:=[.int .i64 s.lo.kind,.int .u64 s.lo.v.a,.int .u64 s.lo.v.b,.int .u64 s.lo.v.c,.slice s.lo.A s.lo.v.pre.length s.lo.c,.slice s.lo.B s.lo.v.build.length s.lo.d,.int .i64 s.hi.kind,.int .u64 s.hi.v.a,.int .u64 s.hi.v.b,.int .u64 s.hi.v.c,.slice s.hi.A s.hi.v.pre.length s.hi.c,.slice s.hi.B s.hi.v.build.length s.hi.d]
def REdge.vals (e:REdge):List Value:=[.int .i64 e.cut.kind,.int .u64 e.cut.v.a,.int .u64 e.cut.v.b,.int .u64 e.cut.v.c,.slice e.cut.A e.cut.v.pre.length e.cut.c,.slice e.cut.B e.cut.v.build.length e.cut.d,.int .i64 e.step]
structure Lies (w:World) (r:RCut):Prop where
 pre:SRow w r.A r.v.pre.length r.v.pre
 build:SRow w r.B r.v.build.length r.v.build
 fpre:Fit r.v.pre
 fbuild:Fit r.v.build
theorem Lies.kept {w w':World} {r:RCut} (h:Lies w r) (hb:Below w.heap.size w w'):Lies w' r:=⟨h.pre.kept hb,h.build.kept hb,h.fpre,h.fbuild⟩
theorem Lies.low (w:World):Lies w rlow:=⟨SRow.none_ _ _,SRow.none_ _ _,Fit.nil,Fit.nil⟩
theorem Lies.high (w:World):Lies w rhigh:=⟨SRow.none_ _ _,SRow.none_ _ _,Fit.nil,Fit.nil⟩
structure LiesS (w:World) (s:RSp):Prop where
 lo:Lies w s.lo
 hi:Lies w s.hi
theorem LiesS.kept {w w':World} {s:RSp} (h:LiesS w s) (hb:Below w.heap.size w w'):LiesS w' s:=⟨h.lo.kept hb,h.hi.kept hb⟩
theorem vals_one (r:RCut):∀ u ∈ r.vals,u.oneCell'=true:=by
 intro u hu; simp only [RCut.vals,List.mem_cons,List.mem_nil_iff,or_false] at hu
 rcases hu with rfl | rfl | rfl | rfl | rfl | rfl <;> rfl
theorem svals_eq (s:RSp):s.vals=s.lo.vals ++ s.hi.vals:=rfl
theorem evals_eq (e:REdge):e.vals=e.cut.vals ++ [.int .i64 e.step]:=rfl
theorem svals_one (s:RSp):∀ u ∈ s.vals,u.oneCell'=true:=by
 intro u hu; rw [svals_eq,List.mem_append] at hu
 exact hu.elim (vals_one _ u) (vals_one _ u)
theorem evals_one (e:REdge):∀ u ∈ e.vals,u.oneCell'=true:=by
 intro u hu; rw [evals_eq,List.mem_append] at hu
 rcases hu with h | h
 ·exact vals_one _ u h
 ·rw [List.mem_singleton] at h; subst h; rfl

def At6B (W:World) (b:Nat) (u0 u1 u2 u3 u4 u5:Value):Prop:=b<W.heap.size∧(∀ o,W.frozen? ⟨b,o,none⟩=false)∧W.cell? ⟨b,0,none⟩=some u0∧W.cell? ⟨b,1,none⟩=some u1∧W.cell? ⟨b,2,none⟩=some u2∧W.cell? ⟨b,3,none⟩=some u3∧W.cell? ⟨b,4,none⟩=some u4∧W.cell? ⟨b,5,none⟩=some u5
theorem At6B.new (w:World) (t:TypeId) (u0 u1 u2 u3 u4 u5:Value):At6B (w.alloc (.cells #[u0,u1,u2,u3,u4,u5] t)) w.heap.size u0 u1 u2 u3 u4 u5:=by
 unfold At6B
 refine ⟨by simp,fun o=>by simp [go_sem],?_,?_,?_,?_,?_,?_⟩ <;> simp [go_sem]
theorem At6B.kept {W W':World} {b B:Nat} {u0 u1 u2 u3 u4 u5:Value} (h:At6B W b u0 u1 u2 u3 u4 u5) (hb:Below B W W') (hB:b<B):At6B W' b u0 u1 u2 u3 u4 u5:=by
 obtain ⟨h1,h2,c0,c1,c2,c3,c4,c5⟩:=h
 exact ⟨Nat.lt_of_lt_of_le h1 hb.size,fun o=>(hb.frozen (p:=⟨b,o,none⟩) hB).trans (h2 o),(hb.cell (p:=⟨b,0,none⟩) hB).trans c0,(hb.cell (p:=⟨b,1,none⟩) hB).trans c1,(hb.cell (p:=⟨b,2,none⟩) hB).trans c2,(hb.cell (p:=⟨b,3,none⟩) hB).trans c3,(hb.cell (p:=⟨b,4,none⟩) hB).trans c4,(hb.cell (p:=⟨b,5,none⟩) hB).trans c5⟩
def At7B (W:World) (b:Nat) (u0 u1 u2 u3 u4 u5 u6:Value):Prop:=b<W.heap.size∧(∀ o,W.frozen? ⟨b,o,none⟩=false)∧W.cell? ⟨b,0,none⟩=some u0∧W.cell? ⟨b,1,none⟩=some u1∧W.cell? ⟨b,2,none⟩=some u2∧W.cell? ⟨b,3,none⟩=some u3∧W.cell? ⟨b,4,none⟩=some u4∧W.cell? ⟨b,5,none⟩=some u5∧W.cell? ⟨b,6,none⟩=some u6
theorem At7B.new (w:World) (t:TypeId) (u0 u1 u2 u3 u4 u5 u6:Value):At7B (w.alloc (.cells #[u0,u1,u2,u3,u4,u5,u6] t)) w.heap.size u0 u1 u2 u3 u4 u5 u6:=by
 unfold At7B
 refine ⟨by simp,fun o=>by simp [go_sem],?_,?_,?_,?_,?_,?_,?_⟩ <;> simp [go_sem]
theorem At7B.kept {W W':World} {b B:Nat} {u0 u1 u2 u3 u4 u5 u6:Value} (h:At7B W b u0 u1 u2 u3 u4 u5 u6) (hb:Below B W W') (hB:b<B):At7B W' b u0 u1 u2 u3 u4 u5 u6:=by
 obtain ⟨h1,h2,c0,c1,c2,c3,c4,c5,c6⟩:=h
 exact ⟨Nat.lt_of_lt_of_le h1 hb.size,fun o=>(hb.frozen (p:=⟨b,o,none⟩) hB).trans (h2 o),(hb.cell (p:=⟨b,0,none⟩) hB).trans c0,(hb.cell (p:=⟨b,1,none⟩) hB).trans c1,(hb.cell (p:=⟨b,2,none⟩) hB).trans c2,(hb.cell (p:=⟨b,3,none⟩) hB).trans c3,(hb.cell (p:=⟨b,4,none⟩) hB).trans c4,(hb.cell (p:=⟨b,5,none⟩) hB).trans c5,(hb.cell (p:=⟨b,6,none⟩) hB).trans c6⟩
def At12B (W:World) (b:Nat) (u0 u1 u2 u3 u4 u5 u6 u7 u8 u9 u10 u11:Value):Prop:=b<W.heap.size∧(∀ o,W.frozen? ⟨b,o,none⟩=false)∧W.cell? ⟨b,0,none⟩=some u0∧W.cell? ⟨b,1,none⟩=some u1∧W.cell? ⟨b,2,none⟩=some u2∧W.cell? ⟨b,3,none⟩=some u3∧W.cell? ⟨b,4,none⟩=some u4∧W.cell? ⟨b,5,none⟩=some u5∧W.cell? ⟨b,6,none⟩=some u6∧W.cell? ⟨b,7,none⟩=some u7∧W.cell? ⟨b,8,none⟩=some u8∧W.cell? ⟨b,9,none⟩=some u9∧W.cell? ⟨b,10,none⟩=some u10∧W.cell? ⟨b,11,none⟩=some u11
theorem At12B.new (w:World) (t:TypeId) (u0 u1 u2 u3 u4 u5 u6 u7 u8 u9 u10 u11:Value):At12B (w.alloc (.cells #[u0,u1,u2,u3,u4,u5,u6,u7,u8,u9,u10,u11] t)) w.heap.size u0 u1 u2 u3 u4 u5 u6 u7 u8 u9 u10 u11:=by
 unfold At12B
 refine ⟨by simp,fun o=>by simp [go_sem],?_,?_,?_,?_,?_,?_,?_,?_,?_,?_,?_,?_⟩ <;> simp [go_sem]
theorem At12B.kept {W W':World} {b B:Nat} {u0 u1 u2 u3 u4 u5 u6 u7 u8 u9 u10 u11:Value} (h:At12B W b u0 u1 u2 u3 u4 u5 u6 u7 u8 u9 u10 u11) (hb:Below B W W') (hB:b<B):At12B W' b u0 u1 u2 u3 u4 u5 u6 u7 u8 u9 u10 u11:=by
 obtain ⟨h1,h2,c0,c1,c2,c3,c4,c5,c6,c7,c8,c9,c10,c11⟩:=h
 exact ⟨Nat.lt_of_lt_of_le h1 hb.size,fun o=>(hb.frozen (p:=⟨b,o,none⟩) hB).trans (h2 o),(hb.cell (p:=⟨b,0,none⟩) hB).trans c0,(hb.cell (p:=⟨b,1,none⟩) hB).trans c1,(hb.cell (p:=⟨b,2,none⟩) hB).trans c2,(hb.cell (p:=⟨b,3,none⟩) hB).trans c3,(hb.cell (p:=⟨b,4,none⟩) hB).trans c4,(hb.cell (p:=⟨b,5,none⟩) hB).trans c5,(hb.cell (p:=⟨b,6,none⟩) hB).trans c6,(hb.cell (p:=⟨b,7,none⟩) hB).trans c7,(hb.cell (p:=⟨b,8,none⟩) hB).trans c8,(hb.cell (p:=⟨b,9,none⟩) hB).trans c9,(hb.cell (p:=⟨b,10,none⟩) hB).trans c10,(hb.cell (p:=⟨b,11,none⟩) hB).trans c11⟩

def SpRow (w:World) (A:Option Addr) (n:Nat) (l:List RSp):Prop :=
 l.length=n∧(∀ s ∈ l,LiesS w s)∧(0<n→∃ b o,A=some ⟨b,o,none⟩∧b<w.heap.size∧∀ j,j<n→∀ i v,(l.getD j default).vals[i]?=some v→w.cell? ⟨b,o+j * 12+i,none⟩=some v)
theorem SpRow.none_ (w:World) (A:Option Addr):SpRow w A 0 []:=⟨rfl,(fun s h=>by cases h),fun h=>by omega⟩
theorem SpRow.kept {w w':World} {A:Option Addr} {n:Nat} {l:List RSp} (h:SpRow w A n l) (hb:Below w.heap.size w w'):SpRow w' A n l:=by
 refine ⟨h.1,fun s hs=>(h.2.1 s hs).kept hb,fun h0=>?_⟩
 obtain ⟨b,o,e,hlt,hc⟩:=h.2.2 h0
 exact ⟨b,o,e,Nat.lt_of_lt_of_le hlt hb.size,fun j hj i v hv=>(hb.cell (p:=⟨b,o+j * 12+i,none⟩) hlt).trans (hc j hj i v hv)⟩
theorem getS_mem {l:List RSp} {k:Nat} (h:k<l.length):l.getD k default ∈ l:=by simp [List.getD,List.getElem?_eq_getElem h]
theorem SpRow.lies {w:World} {A:Option Addr} {n:Nat} {l:List RSp} (h:SpRow w A n l) {k:Nat} (hk:k<n):LiesS w (l.getD k default):=h.2.1 _ (getS_mem (by rw [h.1]; exact hk))
theorem SpRow.cells {w:World} {b o n:Nat} {l:List RSp} (h:∀ j,j<n→∀ i v,(l.getD j default).vals[i]?=some v→w.cell? ⟨b,o+j * 12+i,none⟩=some v) {k:Nat} (hk:k<n) :
  w.cell? ⟨b,o+k * 12,none⟩=some (.int .i64 (l.getD k default).lo.kind)∧w.cell? ⟨b,o+k * 12+1,none⟩=some (.int .u64 ((l.getD k default).lo.v.a))∧w.cell? ⟨b,o+k * 12+2,none⟩=some (.int .u64 ((l.getD k default).lo.v.b))∧w.cell? ⟨b,o+k * 12+3,none⟩=some (.int .u64 ((l.getD k default).lo.v.c))∧w.cell? ⟨b,o+k * 12+4,none⟩=some (.slice (l.getD k default).lo.A (l.getD k default).lo.v.pre.length (l.getD k default).lo.c)∧w.cell? ⟨b,o+k * 12+5,none⟩=some (.slice (l.getD k default).lo.B (l.getD k default).lo.v.build.length (l.getD k default).lo.d)∧w.cell? ⟨b,o+k * 12+6,none⟩=some (.int .i64 (l.getD k default).hi.kind)∧w.cell? ⟨b,o+k * 12+7,none⟩=some (.int .u64 ((l.getD k default).hi.v.a))∧w.cell? ⟨b,o+k * 12+8,none⟩=some (.int .u64 ((l.getD k default).hi.v.b))∧w.cell? ⟨b,o+k * 12+9,none⟩=some (.int .u64 ((l.getD k default).hi.v.c))∧w.cell? ⟨b,o+k * 12+10,none⟩=some (.slice (l.getD k default).hi.A (l.getD k default).hi.v.pre.length (l.getD k default).hi.c)∧w.cell? ⟨b,o+k * 12+11,none⟩=some (.slice (l.getD k default).hi.B (l.getD k default).hi.v.build.length (l.getD k default).hi.d) :=
 ⟨h k hk 0 _ rfl,h k hk 1 _ rfl,h k hk 2 _ rfl,h k hk 3 _ rfl,h k hk 4 _ rfl,h k hk 5 _ rfl,h k hk 6 _ rfl,h k hk 7 _ rfl,h k hk 8 _ rfl,h k hk 9 _ rfl,h k hk 10 _ rfl,h k hk 11 _ rfl⟩

end Go.Proofs.YtgakcdcfblgagaaGreatDoor.Span
