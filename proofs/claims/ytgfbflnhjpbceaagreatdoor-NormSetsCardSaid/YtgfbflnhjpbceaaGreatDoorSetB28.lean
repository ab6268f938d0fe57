/-
  What the theorem of the last text needs of these: NmRise, RgRefSame, RgRead, RgCame. Conditions: as each theorem states.
-/
import Derived.Test.YtgfbflnhjpbceaaGreatDoorSetB1
import Derived.Test.YtgfbflnhjpbceaaGreatDoorSetB7
import Derived.Test.YtgfbflnhjpbceaaGreatDoorSetB13
import Derived.Test.YtgfbflnhjpbceaaGreatDoorSetB14
import Derived.Test.YtgfbflnhjpbceaaGreatDoorSetB20
import Derived.Test.YtgfbflnhjpbceaaGreatDoorSetB22
import Derived.Test.YtgfbflnhjpbceaaGreatDoorSetB24
import Derived.WalkLawsBesides
import Derived.BigQuiet
set_option maxRecDepth 100000
set_option maxHeartbeats 25600000
namespace Go.Proofs.YtgfbflnhjpbceaaGreatDoor.Nrm
open Go.RowKit Num Ident Semver Prec Span
def fb (k:Nat):Nat:=floatOfInt .f64 (k:Int)
theorem fb_zero:fb 0=0:=by decide +kernel
theorem fb_one:fb 1=4607182418800017408:=by decide +kernel
theorem fb_add0:∀ k,k<151→floatBits .add .f64 (fb k) 0=some (fb k):=by decide +kernel
theorem fb_add1:∀ k,k<151→floatBits .add .f64 (fb k) 4607182418800017408=some (fb (k+1)):=by decide +kernel
theorem fb_same:∀ k,k<151→(FloatKind.f64.format.order (fb k) (fb k) == some .eq)=true:=by decide +kernel
theorem fb_next:∀ k,k<151→(FloatKind.f64.format.order (fb k) (fb (k+1)) == some .eq)=false:=by decide +kernel
def riseN (a b:Cut):Nat:=if isPoint a b=true then 0 else 1
theorem fb_rise {k:Nat} (hk:k<151) (a b:Cut):floatBits .add .f64 (fb k) (fb (riseN a b))=some (fb (k+riseN a b)):=by
 unfold riseN
 split
 ·rw [fb_zero]; exact fb_add0 k hk
 ·rw [fb_one]; exact fb_add1 k hk
theorem fb_eq {k:Nat} (hk:k<151) (a b:Cut):(FloatKind.f64.format.order (fb k) (fb (k+riseN a b)) == some .eq)=isPoint a b:=by
 unfold riseN
 cases h:isPoint a b with
 | true=>rw [if_pos rfl]; exact fb_same k hk
 | false=>rw [if_neg (by simp)]; exact fb_next k hk
theorem rise_any (a b:RCut) (w:World) (ha:Span.Lies w a) (hb:Span.Lies w b) :
  Calls Tryz.prog 107 #[.agg #[a.kind,a.v.a,a.v.b,a.v.c,.slice a.A a.v.pre.length a.c,.slice a.B a.v.build.length a.d],.agg #[b.kind,b.v.a,b.v.b,b.v.c,.slice b.A b.v.pre.length b.c,.slice b.B b.v.build.length b.d]] w fun e w'=>e=.returned (.float .f64 (fb (riseN a.cut b.cut)))∧Below w.heap.size w w':=by
 have HB0:Hid (Below w.heap.size w ((w.alloc a).alloc b)):=((Below.refl _ _).alloc (Nat.le_refl _) _).alloc (by simp) _
 have X1:Hid (At6B ((w.alloc a).alloc b) w.heap.size a.kind a.v.a a.v.b a.v.c (.slice a.A a.v.pre.length a.c) (.slice a.B a.v.build.length a.d)):=(At6B.new w 41 a.kind a.v.a a.v.b a.v.c (.slice a.A a.v.pre.length a.c) (.slice a.B a.v.build.length a.d)).kept ((Below.refl _ _).alloc (Nat.le_refl _) _) (by simp)
 have Y1:Hid (At6B ((w.alloc a).alloc b) (w.heap.size+1) b.kind b.v.a b.v.b b.v.c (.slice b.A b.v.pre.length b.c) (.slice b.B b.v.build.length b.d)):=by
  have:=At6B.new (w.alloc a) 41 b.kind b.v.a b.v.b b.v.c (.slice b.A b.v.pre.length b.c) (.slice b.B b.v.build.length b.d)
  rw [size_alloc] at this; exact this
 have HLa:=Lib.hid ha
 have HLb:=Lib.hid hb
 have HP:=Lib.hid (isPoint_iff a.cut b.cut)
 clear ha hb
 generalize hR:fb (riseN a.cut b.cut)=R
 have H0:Hid (isPoint a.cut b.cut=true→R=0):=fun h=>by rw [← hR]; unfold riseN; rw [if_pos h]; exact fb_zero
 have H1:Hid (isPoint a.cut b.cut≠true→R=4607182418800017408):=fun h=>by rw [← hR]; unfold riseN; rw [if_neg h]; exact fb_one
 clear hR
 go_enter Tryz.func107,Tryz.ntmps107
 go_upto_region 1 with (fail)
 generalize ((w.alloc a).alloc b)=W at HB0 X1 Y1 ⊢
 obtain ⟨_,_,a0,a1,a2,a3,a4,a5⟩:=X1.out
 obtain ⟨_,_,b0,b1,b2,b3,b4,b5⟩:=Y1.out
 by_cases h1:a.kind=1
 ·by_cases h2:b.kind=2
  ·have HK1:=Lib.hid h1
   have HK2:=Lib.hid h2
   rw [h1] at a0
   rw [h2] at b0
   clear h1 h2
   go_wp2_with fail
   refine (compare_any a.v b.v a.A a.B b.A b.B a.c a.d b.c b.d _ (HLa.out.pre.kept HB0.out) (HLb.out.pre.kept HB0.out) HLa.out.fpre HLb.out.fpre).mono ?_
   rintro e w2 ⟨rfl,hb⟩
   have HB:=Lib.hid (HB0.out.trans (hb.mono HB0.out.size))
   clear hb
   by_cases h3:cmpV a.v b.v=0
   ·obtain rfl:=H0.out (HP.out.2 ⟨HK1.out,HK2.out,h3⟩)
    rw [h3]
    clear h3 H0 H1
    go_wp2; go_ret
    exact ⟨rfl,HB.out⟩
   ·obtain rfl:=H1.out (fun h=>h3 (HP.out.1 h).2.2)
    have q3:(cmpV a.v b.v == 0)=false:=by simp [h3]
    clear h3 H0 H1
    go_wp2; go_ret
    exact ⟨rfl,HB.out⟩
  ·obtain rfl:=H1.out (fun h=>h2 (HP.out.1 h).2.1)
   have q2:(b.kind == 2)=false:=by simp [h2]
   rw [h1] at a0
   clear h1 h2 H0 H1
   go_wp2; go_ret
   exact ⟨rfl,HB0.out⟩
 ·obtain rfl:=H1.out (fun h=>h1 (HP.out.1 h).1)
  have q1:(a.kind == 1)=false:=by simp [h1]
  clear h1 H0 H1
  go_wp2; go_ret
  exact ⟨rfl,HB0.out⟩
end Go.Proofs.YtgfbflnhjpbceaaGreatDoor.Nrm
namespace Go.Proofs.YtgfbflnhjpbceaaGreatDoor.Range
open Go.RowKit Num Ident Semver
theorem rr_start (w:World) (x:RV) (yA:Option Addr) (yc:Nat) (yB:Option Addr) (yd:Nat) (yL:Option Addr) (ye:Nat):∃ W,W=((w.alloc x).alloc (.cells #[x.kind,x.v.a,x.v.b,x.v.c,.slice yA x.v.pre.length yc,.slice yB x.v.build.length yd,.slice yL x.n ye] 28))∧Hid (Below w.heap.size w W)∧Hid (RAt W w.heap.size x)∧Hid (At7 W (w.heap.size+1) x.kind x.v.a x.v.b x.v.c (.slice yA x.v.pre.length yc) (.slice yB x.v.build.length yd) (.slice yL x.n ye)):=by
 refine ⟨_,rfl,((Below.refl _ _).alloc (Nat.le_refl _) _).alloc (by simp) _,(RAt.new w 28 x).kept ((Below.refl _ _).alloc (Nat.le_refl _) _) (by simp),?_⟩
 have h:=At7.new (w.alloc x) 28 x.kind x.v.a x.v.b x.v.c (.slice yA x.v.pre.length yc) (.slice yB x.v.build.length yd) (.slice yL x.n ye)
 rw [size_alloc] at h; exact h
def RefSameAt (m:Nat):Prop:=∀ (r:Rng) (x y:RV) (B:Nat) (w:World),wt r≤m→LenOk r→Weak w (LtB B) r x→Weak w (LtB B) r y→B≤w.heap.size →
  Calls Tryz.prog 16 #[x.agg,y.agg] w fun e w'=>e=.returned (.bool true)∧Below w.heap.size w w'
theorem refSame_step (m:Nat) (ih:RefSameAt m):RefSameAt (m+1):=by
 intro r x y B w hm hlo hx hy hB
 have IH:=Lib.hid ih
 clear ih
 have hs:=hx.says
 have ht:=hy.says
 obtain ⟨yk,yv,yA,yc,yB,yd,yL,yn,ye⟩:=y
 obtain ⟨f,hln,_,_⟩:=hs.subs
 obtain ⟨f2,hln2,_,_⟩:=ht.subs
 obtain rfl:yk=x.kind:=ht.kind.symm.trans hs.kind
 obtain rfl:yv=x.v:=ht.ver.symm.trans hs.ver
 obtain rfl:yn=x.n:=hln2.symm.trans hln
 have HP1:=Lib.hid hs.pre
 have HU1:=Lib.hid hs.build
 have HP2:Hid (SRow w yA x.v.pre.length x.v.pre):=ht.pre
 have HU2:Hid (SRow w yB x.v.build.length x.v.build):=ht.build
 have hfit:=hs.fp
 have hfit2:=hs.fb
 rw [wt_eq] at hm
 have hxn:x.n≤9223372036854775807:=by rw [← hln]; exact hlo.here
 have HLO:=Lib.hid hlo
 have HLN:=Lib.hid hln
 obtain ⟨W,hW,HB0,HR0,HY0⟩:=rr_start w x yA yc yB yd yL ye
 have HLX0:=Lib.hid (hx.keep (KeepS.of_below (S:=LtB B) HB0.out))
 have HLY0:=Lib.hid (hy.keep (KeepS.of_below (S:=LtB B) HB0.out))
 clear hs ht hx hy hln hln2 hlo
 unfold RV.agg
 go_enter Tryz.func16,Tryz.ntmps16
 go_upto_region 1 with (fail)
 rw [← hW]
 clear hW
 have q1:(x.kind != x.kind)=false:=by simp
 have q2:((x.n:Int) != (x.n:Int))=false:=by simp
 obtain ⟨y1,y2,c0,c1,c2,c3,c4,c5,c6⟩:=HR0.out
 obtain ⟨z1,z2,d0,d1,d2,d3,d4,d5,d6⟩:=HY0.out
 go_wp2_with fail
 refine (Semver.refSame_any x.v x.v x.A x.B yA yB x.c x.d yc yd W (HP1.out.kept HB0.out) (HU1.out.kept HB0.out) (HP2.out.kept HB0.out) (HU2.out.kept HB0.out) hfit hfit2 hfit hfit2).mono ?_
 rintro e W2 ⟨rfl,hb⟩
 have HB2:=Lib.hid (HB0.out.trans (hb.mono HB0.out.size))
 have HR2:=Lib.hid (HR0.out.kept hb HR0.out.1)
 have HY2:=Lib.hid (HY0.out.kept hb HY0.out.1)
 have HLX:=Lib.hid (HLX0.out.keep (KeepS.of_below (S:=LtB B) hb))
 have HLY:=Lib.hid (HLY0.out.keep (KeepS.of_below (S:=LtB B) hb))
 have hB2:B≤W2.heap.size:=Nat.le_trans hB HB2.out.size
 rw [sameV_self x.v]
 clear hb y1 y2 c0 c1 c2 c3 c4 c5 c6 z1 z2 d0 d1 d2 d3 d4 d5 d6 HB0 HR0 HY0 HLX0 HLY0 HP1 HU1 HP2 HU2 hfit hfit2
 obtain ⟨y1,y2,c0,c1,c2,c3,c4,c5,c6⟩:=HR2.out
 obtain ⟨z1,z2,d0,d1,d2,d3,d4,d5,d6⟩:=HY2.out
 go_wp2
 clear y1 y2 c0 c1 c2 c3 c4 c5 c6 z1 z2 d0 d1 d2 d3 d4 d5 d6
 go_loopw [5] (fun iv W'=>∃ k:Nat,k≤x.n∧iv=.int .i64 k∧Hid (Below W2.heap.size W2 W')) (fun iv _=>x.n - (intOf iv).toNat)
 case atStart=>exact ⟨0,Nat.zero_le _,rfl,Below.refl _ _⟩
 case round =>
  obtain ⟨k,hk,rfl,HB3⟩:=hrel
  by_cases hlt:k<x.n
  ·obtain ⟨b,o,c1,hLe,hSb,hcl,hcy⟩:=HLX.out.says.subs.one hlt
   obtain ⟨b2,o2,c2,hLe2,hSb2,hcl2,hcy2⟩:=HLY.out.says.subs.one hlt
   simp only at hLe2
   have hll:k<r.subs.length:=by rw [HLN.out]; exact hlt
   have hmem:r.subs.getD k noRng ∈ r.subs:=by
    rw [List.getD_eq_getElem?_getD,List.getElem?_eq_getElem (by omega)]; exact List.getElem_mem _
   have hwt:wt (r.subs.getD k noRng)≤m:=by have:=wt_mem hmem; omega
   have hlo:=HLO.out.sub hmem
   have HC1:Hid (CellsAt wr b (o+k * 7) c1):=hcl.keep (KeepS.of_below (S:=LtB B) HB3.out) hSb
   have HC2:Hid (CellsAt wr b2 (o2+k * 7) c2):=hcl2.keep (KeepS.of_below (S:=LtB B) HB3.out) hSb2
   have HK1:Hid (Weak wr (LtB B) (r.subs.getD k noRng) c1):=hcy.keep (KeepS.of_below (S:=LtB B) HB3.out)
   have HK2:Hid (Weak wr (LtB B) (r.subs.getD k noRng) c2):=hcy2.keep (KeepS.of_below (S:=LtB B) HB3.out)
   have hBx:B≤wr.heap.size:=Nat.le_trans hB2 HB3.out.size
   have HR3:=Lib.hid (HR2.out.kept HB3.out HR2.out.1)
   have HY3:=Lib.hid (HY2.out.kept HB3.out HY2.out.1)
   clear hcl hcy hcl2 hcy2
   generalize r.subs.getD k noRng=u at hwt hlo HK1 HK2
   obtain ⟨y1,y2,c0,c1',c2',c3,c4,c5,c6⟩:=HR3.out
   obtain ⟨z1,z2,d0,d1,d2,d3,d4,d5,d6⟩:=HY3.out
   rw [hLe] at c6 ⊢
   rw [hLe2] at d6 ⊢
   go_upto_region 6 with (fail)
   clear y1 y2 c0 c1' c2' c3 c4 c5 c6 z1 z2 d0 d1 d2 d3 d4 d5 d6
   replace HB3:Hid (Below W2.heap.size W2 wr.drew):=HB3.out.drew
   replace HR3:Hid (RAt wr.drew w.heap.size x):=HR3.out
   replace HY3:Hid (At7 wr.drew (w.heap.size+1) x.kind x.v.a x.v.b x.v.c (.slice yA x.v.pre.length yc) (.slice yB x.v.build.length yd) (.slice yL x.n ye)):=HY3.out
   replace HC1:Hid (CellsAt wr.drew b (o+k * 7) c1):=HC1.out
   replace HC2:Hid (CellsAt wr.drew b2 (o2+k * 7) c2):=HC2.out
   replace HK1:Hid (Weak wr.drew (LtB B) u c1):=HK1.out.keep (KeepS.of_below (S:=LtB B) (Below.refl _ _).drew)
   replace HK2:Hid (Weak wr.drew (LtB B) u c2):=HK2.out.keep (KeepS.of_below (S:=LtB B) (Below.refl _ _).drew)
   refine wp_region_held_drew (S:=fun w'=>RAt w' w.heap.size x∧At7 w' (w.heap.size+1) x.kind x.v.a x.v.b x.v.c (.slice yA x.v.pre.length yc) (.slice yB x.v.build.length yd) (.slice yL x.n ye)∧CellsAt w' b (o+k * 7) c1∧CellsAt w' b2 (o2+k * 7) c2) (by kernel_rfl) ⟨HR3.out,HY3.out,HC1.out,HC2.out⟩ (fun hHeld=>?_)
   have hBV:B≤wr.drew.heap.size:=hBx
   generalize wr.drew=V at HB3 HR3 HY3 HC1 HC2 HK1 HK2 hBV hHeld ⊢
   refine tk 0 rfl (.pointer (some ⟨w.heap.size,6,none⟩)) ?_
   refine tk 1 rfl (.slice (some ⟨b,o,none⟩) x.n x.e) ?_ fun w' hS'=>by obtain ⟨y1,y2,c0,c1,c2,c3,c4,c5,c6⟩:=hS'.1; rw [hLe] at c6; go_simp
   refine tk 2 rfl (.int .i64 k) ?_
   refine tk 3 rfl (.pointer (some ⟨b,o+k * 7,none⟩)) ?_
   refine tk 4 rfl c1 ?_ fun w' hS'=>by obtain ⟨e0,e1,e2,e3,e4,e5,e6⟩:=hS'.2.2.1.cells; go_simp
   refine tk 5 rfl (.pointer (some ⟨w.heap.size+1,6,none⟩)) ?_
   refine tk 6 rfl (.slice (some ⟨b2,o2,none⟩) x.n ye) ?_ fun w' hS'=>by obtain ⟨y1,y2,c0,c1,c2,c3,c4,c5,c6⟩:=hS'.2.1; rw [hLe2] at c6; go_simp
   refine tk 7 rfl (.int .i64 k) ?_
   refine tk 8 rfl (.pointer (some ⟨b2,o2+k * 7,none⟩)) ?_
   refine tk 9 rfl c2 ?_ fun w' hS'=>by obtain ⟨e0,e1,e2,e3,e4,e5,e6⟩:=hS'.2.2.2.cells; go_simp
   refine cl 10 rfl fun K hK=>?_
   go_simp
   refine (IH.out u c1 c2 B V hwt hlo HK1.out HK2.out hBV).mono ?_
   rintro e V1 ⟨rfl,hb⟩
   have HB4:=Lib.hid (HB3.out.trans (hb.mono HB3.out.size))
   have HR4:=Lib.hid (HR3.out.kept hb HR3.out.1)
   have HY4:=Lib.hid (HY3.out.kept hb HY3.out.1)
   have HC3:Hid (CellsAt V1 b (o+k * 7) c1):=HC1.out.keep (KeepS.of_below (S:=fun _=>True) hb) trivial
   have HC4:Hid (CellsAt V1 b2 (o2+k * 7) c2):=HC2.out.keep (KeepS.of_below (S:=fun _=>True) hb) trivial
   clear hb hHeld
   refine hK.out _ _ ⟨HR4.out,HY4.out,HC3.out,HC4.out⟩ (fun hHeld=>?_)
   clear hK K
   try simp only [Act.put,p1,p2,p3]
   refine tk 11 rfl (.bool false) ?_
   refine wpAnyH_done (by kernel_rfl) ?_ _
   go_wp2
   exact ⟨⟨k+1,by omega,by go_num,HB4.out⟩,by simp [intOf]; omega⟩
  ·obtain rfl:k=x.n:=by omega
   have HR3:=Lib.hid (HR2.out.kept HB3.out HR2.out.1)
   obtain ⟨y1,y2,c0,c1,c2,c3,c4,c5,c6⟩:=HR3.out
   go_wp2
   go_ret
   exact ⟨rfl,HB2.out.trans (HB3.out.mono HB2.out.size)⟩
theorem refSame_all:∀ m,RefSameAt m
 | 0=>fun r x y B w hm _ hx _ hB=>by rw [wt_eq] at hm; omega
 | m+1=>refSame_step m (refSame_all m)
end Go.Proofs.YtgfbflnhjpbceaaGreatDoor.Range
namespace Go.Proofs.YtgfbflnhjpbceaaGreatDoor.Range
open Go.RowKit Num Ident Semver

def ParPost (w:World) (r:POut) (e:Ending) (w':World):Prop :=
 ∃ x:RV,e=.returned (.tuple #[x.agg,.int .i64 r.2.1,.int .i64 r.1])∧Lies w' (From w.heap.size) r.2.2 x∧Below w.heap.size w w'
theorem par_end {w W:World} {f q:Nat} {r:Rng} {x:RV} (hL:Lies W (From (w.heap.size+1)) r x) (hb:Below w.heap.size w W):ParPost w (f,q,r) (.returned (.tuple #[x.agg,.int .i64 q,.int .i64 f])) (setR W w.heap.size x) :=
 ⟨x,rfl,(hL.keep (setR_keep (Nat.not_succ_le_self _) x)).from_ (Nat.le_succ _),hb.trans (setR_below _ (Nat.le_refl _) x)⟩
theorem setR_rd_lt {W:World} {g b:Nat} {A:Option Addr} {n c p:Nat} {x:RV} (h:Rd W b A n c p) (hne:b≠g):Rd (setR W g x) b A n c p:=by
 have hb:(setR W g x).heap[b]?=W.heap[b]?:=by
  unfold setR
  simp only [Below.heap_setCell _ _ _ _ (show b≠Addr.block ⟨g,_,none⟩ from hne)]
 have hz:(setR W g x).heap.size=W.heap.size:=by unfold setR; simp
 have kc:∀ o,(setR W g x).cell? ⟨b,o,none⟩=W.cell? ⟨b,o,none⟩:=fun o=>World.cell?_of_block (w:=W) (a:=⟨b,o,none⟩) hb
 exact ⟨by rw [hz]; exact h.lt,fun o=>(World.frozen?_of_block (w:=W) (a:=⟨b,o,none⟩) hb).trans (h.open_ o),(kc 0).trans h.row,(kc 1).trans h.at_,(kc 2).trans h.end_⟩
theorem KeepS.drew (S:Nat→Prop) (w:World):KeepS S w w.drew:=⟨Nat.le_refl _,fun _ _ _ _ h=>h⟩
theorem RAt.drew {W:World} {g:Nat} {x:RV} (h:RAt W g x):RAt W.drew g x:=h
theorem ParPost.drew {w W:World} {r:POut} {e:Ending} (h:ParPost w r e W):ParPost w r e W.drew:=by
 obtain ⟨x,h1,h2,h3⟩:=h
 exact ⟨x,h1,h2.keep (KeepS.drew _ _),h3.drew⟩
theorem Rd.new (w:World) (A:Option Addr) (n c p:Nat) (t:TypeId):Rd (w.alloc (.cells #[.slice A n c,.int .i64 p] t)) w.heap.size A n c p:=by
 refine ⟨by simp,fun o=>by simp [go_sem],?_,?_,?_⟩ <;> simp [go_sem]
theorem parse_out (A:Option Addr) (n c:Nat) (l:List UInt8) (p:Int) (w:World) (h:Row w A n l) (ho:p<0∨(n:Int)<p) :
  Calls Tryz.prog 49 #[.slice A n c,.int .i64 p] w (ParPost w (pparse l p)):=by
 have HE:Hid (pparse l p=(1,0,noRng)):=by unfold Hid pparse; rw [if_pos (by rw [h.1]; exact ho)]
 have HB:Hid (Below w.heap.size w (w.alloc ())):=(Below.refl _ _).alloc (Nat.le_refl _) _
 rw [HE.out]
 clear h HE
 by_cases h0:p<0
 ·go_enter Tryz.func49,Tryz.ntmps49
  go_wp2
  exact bodyPost_ret (v:=.tuple #[.agg #[.int .i64 0,.int .u64 0,.int .u64 0,.int .u64 0,.slice none 0 0,.slice none 0 0,.slice none 0 0],.int .i64 0,.int .i64 1]) (by simp [results,Tryz.results49,go_sem]) rfl (⟨zeroRV 0,rfl,Lies.zero _ _ 0,HB.out⟩)
 ·have h1:(n:Int)<p:=by omega
  clear ho
  go_enter Tryz.func49,Tryz.ntmps49
  go_wp2
  exact bodyPost_ret (v:=.tuple #[.agg #[.int .i64 0,.int .u64 0,.int .u64 0,.int .u64 0,.slice none 0 0,.slice none 0 0,.slice none 0 0],.int .i64 0,.int .i64 1]) (by simp [results,Tryz.results49,go_sem]) rfl (⟨zeroRV 0,rfl,Lies.zero _ _ 0,HB.out⟩)
theorem parse_in (A:Option Addr) (n c:Nat) (l:List UInt8) (p:Nat) (w:World) (h:Row w A n l) (hc:n≤c) (hn:n≤30000000) (hp:p≤n) (ht:OpsTab w) :
  Calls Tryz.prog 49 #[.slice A n c,.int .i64 p] w (ParPost w (pparse l p)):=by
 have HL:=Lib.hid h.1
 have hp0:¬ (p:Int)<0:=by omega
 have hp1:¬ n<p:=by omega
 obtain ⟨b,hb⟩:∃ b,w.heap.size+1=b:=⟨_,rfl⟩
 have HR0:Hid (Rd ((w.alloc ()).alloc (.cells #[.slice A n c,.int .i64 p] 115)) b A n c p):=by have:=Rd.new (w.alloc ()) A n c p 115; rw [size_alloc,hb] at this; exact this
 have HB0:Hid (Below w.heap.size w ((w.alloc ()).alloc (.cells #[.slice A n c,.int .i64 p] 115))):=((Below.refl _ _).alloc (Nat.le_refl _) _).alloc (by simp) _
 have HRow0:Hid (Row ((w.alloc ()).alloc (.cells #[.slice A n c,.int .i64 p] 115)) A n l):=h.kept HB0.out
 have HT0:Hid (OpsTab ((w.alloc ()).alloc (.cells #[.slice A n c,.int .i64 p] 115))):=ht.keep (Keep.of_below HB0.out)
 have H70:Hid (RAt ((w.alloc ()).alloc (.cells #[.slice A n c,.int .i64 p] 115)) w.heap.size (zeroRV 0)):=(RAt.new w 28 (zeroRV 0)).kept ((Below.refl _ _).alloc (Nat.le_refl _) _) (by simp)
 have HPl:Hid (Pl l p (l.drop p)):=⟨by rw [HL.out]; exact hp,rfl⟩
 have HX:Hid (PartOK 88 b A n c l 0 (exprF (pone 64))):=expr64_ok b A n c l hn hc
 have hne:w.heap.size≠b:=by omega
 have hbs:b<(((w.alloc ()).alloc (.cells #[.slice A n c,.int .i64 p] 115))).heap.size:=HR0.out.lt
 obtain ⟨⟨f,s2,r⟩,hk⟩:∃ t,exprF (pone 64) (blanks (l.drop p))=t:=⟨_,rfl⟩
 have HE:Hid (pparse l p=(f,l.length - s2.length,r)):=by
  unfold Hid pparse; rw [if_neg (by rw [HL.out]; omega),Int.toNat_natCast,hk]
 have HKx:=Lib.hid hk
 rw [HE.out]
 clear h ht hk
 go_enter Tryz.func49,Tryz.ntmps49
 go_wp2_with fail
 try rw [hb]
 refine (pass_any b A n c p 0 l (l.drop p) _ HR0.out HRow0.out HPl.out hp).mono ?_
 rw [List.drop_zero]
 rintro e W1 ⟨rfl,q1,hq1,hR1,hM1⟩
 have HK1:=Lib.hid (HR0.out.keep hM1)
 have HRow1:=Lib.hid (row_keep HRow0.out HK1.out)
 have HT1:=Lib.hid (HT0.out.keep HK1.out)
 have H71:=Lib.hid (H70.out.moved hM1 hne)
 have HB1:=Lib.hid (HB0.out.trans ((hM1.below_of (Nat.le_of_lt hbs)).mono (by omega)))
 have HR1:=Lib.hid hR1
 have HQ1:=Lib.hid hq1
 have hbs1:b<W1.heap.size:=hR1.lt
 clear hR1 hM1 hq1 HR0 HRow0 HT0 H70 HB0 HK1
 go_wp2_with fail
 refine (HX.out W1 q1 _ HR1.out HRow1.out HT1.out HQ1.out).mono ?_
 rw [HKx.out]
 rintro e W2 ⟨x,q2,rfl,hx,hP2,hR2,hM2⟩
 unfold RV.agg
 simp only at hx hP2 ⊢
 have H72:=Lib.hid (H71.out.moved hM2 hne)
 have HB2:=Lib.hid (HB1.out.trans ((hM2.below_of (Nat.le_of_lt hbs1)).mono (by omega)))
 have HR2:=Lib.hid hR2
 have HX2:Hid (Lies W2 (From (w.heap.size+1)) r x):=hx.from_ (by omega)
 have hq2:q2=l.length - s2.length:=by
  have h1:=hP2.len
  have h2:=hP2.le
  omega
 subst hq2
 clear hx hP2 hR2 hM2 H71 HB1 HR1 HRow1 HT1 HQ1 HKx HX
 obtain ⟨y1,y2,c0,c1,c2,c3,c4,c5,c6⟩:=H72.out
 have HV:Hid (RAt (((((((W2.setCell ⟨w.heap.size,0,none⟩ x.kind).setCell ⟨w.heap.size,1,none⟩ x.v.a).setCell ⟨w.heap.size,2,none⟩ x.v.b).setCell ⟨w.heap.size,3,none⟩ x.v.c).setCell ⟨w.heap.size,4,none⟩ (.slice x.A x.v.pre.length x.c)).setCell ⟨w.heap.size,5,none⟩ (.slice x.B x.v.build.length x.d)).setCell ⟨w.heap.size,6,none⟩ (.slice x.L x.n x.e)) w.heap.size x):=setR_at H72.out
 have HRV:Hid (Rd (((((((W2.setCell ⟨w.heap.size,0,none⟩ x.kind).setCell ⟨w.heap.size,1,none⟩ x.v.a).setCell ⟨w.heap.size,2,none⟩ x.v.b).setCell ⟨w.heap.size,3,none⟩ x.v.c).setCell ⟨w.heap.size,4,none⟩ (.slice x.A x.v.pre.length x.c)).setCell ⟨w.heap.size,5,none⟩ (.slice x.B x.v.build.length x.d)).setCell ⟨w.heap.size,6,none⟩ (.slice x.L x.n x.e)) b A n c (l.length - s2.length)):=setR_rd_lt HR2.out hne.symm
 have HBV:Hid (Below w.heap.size w (((((((W2.setCell ⟨w.heap.size,0,none⟩ x.kind).setCell ⟨w.heap.size,1,none⟩ x.v.a).setCell ⟨w.heap.size,2,none⟩ x.v.b).setCell ⟨w.heap.size,3,none⟩ x.v.c).setCell ⟨w.heap.size,4,none⟩ (.slice x.A x.v.pre.length x.c)).setCell ⟨w.heap.size,5,none⟩ (.slice x.B x.v.build.length x.d)).setCell ⟨w.heap.size,6,none⟩ (.slice x.L x.n x.e))):=HB2.out.trans (setR_below _ (Nat.le_refl _) x)
 have HXV:Hid (Lies (((((((W2.setCell ⟨w.heap.size,0,none⟩ x.kind).setCell ⟨w.heap.size,1,none⟩ x.v.a).setCell ⟨w.heap.size,2,none⟩ x.v.b).setCell ⟨w.heap.size,3,none⟩ x.v.c).setCell ⟨w.heap.size,4,none⟩ (.slice x.A x.v.pre.length x.c)).setCell ⟨w.heap.size,5,none⟩ (.slice x.B x.v.build.length x.d)).setCell ⟨w.heap.size,6,none⟩ (.slice x.L x.n x.e)) (From (w.heap.size+1)) r x):=HX2.out.keep (setR_keep (Nat.not_succ_le_self _) x)
 go_upto_region 6 with (fail)
 clear y1 y2 c0 c1 c2 c3 c4 c5 c6 H72 HR2 HB2 HX2
 generalize (((((((W2.setCell ⟨w.heap.size,0,none⟩ x.kind).setCell ⟨w.heap.size,1,none⟩ x.v.a).setCell ⟨w.heap.size,2,none⟩ x.v.b).setCell ⟨w.heap.size,3,none⟩ x.v.c).setCell ⟨w.heap.size,4,none⟩ (.slice x.A x.v.pre.length x.c)).setCell ⟨w.heap.size,5,none⟩ (.slice x.B x.v.build.length x.d)).setCell ⟨w.heap.size,6,none⟩ (.slice x.L x.n x.e))=V at HV HRV HBV HXV ⊢
 have HVd:Hid (RAt V.drew w.heap.size x):=HV.out.drew
 have HRd:Hid (Rd V.drew b A n c (l.length - s2.length)):=HRV.out.drew
 refine wp_region_held_drew (S:=fun w'=>RAt w' w.heap.size x∧w'.cell? ⟨b,1,none⟩=some (.int .i64 ((l.length - s2.length:Nat):Int))) (by kernel_rfl) ⟨HVd.out,HRd.out.at_⟩ (fun hHeld=>?_)
 refine tk 0 rfl x ?_ fun w' hS'=>by obtain ⟨_,_,x0,x1,x2,x3,x4,x5,x6⟩:=hS'.1; go_simp
 refine tk 1 rfl (.pointer (some ⟨b,1,none⟩)) ?_
 refine tk 2 rfl (.int .i64 ((l.length - s2.length:Nat):Int)) ?_ fun w' hS'=>by have x:=hS'.2; go_simp
 refine tk 3 rfl (.int .i64 f) ?_
 refine cl 4 rfl fun K hK=>?_
 obtain ⟨z1,z2,x0,x1,x2,x3,x4,x5,x6⟩:=HV.out
 go_simp
 have HV2:Hid (RAt (setR V w.heap.size x).drew w.heap.size x):=RAt.drew (setR_at HV.out)
 have HRV2:Hid (Rd (setR V w.heap.size x).drew b A n c (l.length - s2.length)):=(setR_rd_lt HRV.out hne.symm).drew
 have HP2:Hid (ParPost w (f,l.length - s2.length,r) (.returned (.tuple #[x.agg,.int .i64 ((l.length - s2.length:Nat):Int),.int .i64 f])) (setR V w.heap.size x).drew):=ParPost.drew (par_end HXV.out HBV.out)
 clear z1 z2 x0 x1 x2 x3 x4 x5 x6 hHeld
 refine hK.out _ _ ⟨HV2.out,HRV2.out.at_⟩ (fun hHeld=>?_)
 clear hK K
 try simp only [Act.put,p1,p2,p3]
 refine tk 5 rfl (.int .i64 ((l.length - s2.length:Nat):Int)) ?_
 refine tk 6 rfl (.int .i64 f) ?_
 refine wpAnyH_done (by kernel_rfl) ?_ _
 change Exit.then _ _ _ _ (setR V w.heap.size x).drew
 generalize (setR V w.heap.size x).drew=U at HV2 HP2 ⊢
 obtain ⟨z1,z2,x0,x1,x2,x3,x4,x5,x6⟩:=HV2.out
 go_wp2
 exact bodyPost_ret (v:=.tuple #[.agg #[x.kind,x.v.a,x.v.b,x.v.c,.slice x.A x.v.pre.length x.c,.slice x.B x.v.build.length x.d,.slice x.L x.n x.e],.int .i64 ((l.length - s2.length:Nat):Int),.int .i64 f]) (by simp [results,Tryz.results49,go_sem,x0,x1,x2,x3,x4,x5,x6]) rfl HP2.out

theorem parse_any (A:Option Addr) (n c:Nat) (l:List UInt8) (p:Int) (w:World) (h:Row w A n l) (hc:n≤c) (hn:n≤30000000) (ht:OpsTab w) :
  Calls Tryz.prog 49 #[.slice A n c,.int .i64 p] w (ParPost w (pparse l p)):=by
 by_cases ho:p<0∨(n:Int)<p
 ·exact parse_out A n c l p w h ho
 ·obtain ⟨k,rfl⟩:=Int.eq_ofNat_of_zero_le (show 0≤p by omega)
  exact parse_in A n c l k w h hc hn (by omega) ht
theorem read_any (s:ByteArray) (w:World) (hs:s.size≤30000000) (ht:OpsTab w) :
  Calls Tryz.prog 24 #[.string s] w (ParPost w (pread s.data.toList)):=by
 have HL:=Lib.hid (Lib.size_eq s)
 obtain ⟨cc,W,hcc,hcv,hr,hb⟩:=run_bytes (w.alloc ()) s (by unfold maxLen; omega)
 have H7:Hid (RAt W w.heap.size (zeroRV 0)):=(RAt.new w 28 (zeroRV 0)).kept hb (by simp)
 have HB:Hid (Below w.heap.size w W):=((Below.refl w.heap.size w).alloc (Nat.le_refl _) _).trans (hb.mono (by simp))
 have HT:Hid (OpsTab W):=ht.keep (Keep.of_below HB.out)
 have hz:w.heap.size+1≤W.heap.size:=by have:=hb.size; simpa using this
 rw [size_alloc] at hr hcv
 have HR:=Lib.hid hr
 clear hr hb ht
 generalize s.data.toList=l at HL HR
 have HP:=Lib.hid (fun A n c W hW hc hn hT=>parse_any A n c l 0 W hW hc hn hT)
 have HI:Hid (pread l=if (pparse l 0).1≠0 then ((pparse l 0).1,(pparse l 0).2.1,noRng) else if (pparse l 0).2.1≠l.length then (13,(pparse l 0).2.1,noRng) else (0,0,(pparse l 0).2.2)):=rfl
 obtain ⟨⟨f,q,r⟩,hk⟩:∃ t,pparse l 0=t:=⟨_,rfl⟩
 rw [hk] at HP HI
 simp only at HI
 clear hk
 go_enter Tryz.func24,Tryz.ntmps24
 go_wp2_with fail
 refine (HP.out _ _ _ W HR.out hcc hs HT.out).mono ?_
 rintro e W1 ⟨x,rfl,hx,hb1⟩
 unfold RV.agg
 simp only at hx ⊢
 have H71:=Lib.hid (H7.out.kept hb1 (by omega))
 have HB1:=Lib.hid (HB.out.trans (hb1.mono (by omega)))
 have HX:Hid (Lies W1 (From (w.heap.size+1)) r x):=hx.from_ (by omega)
 obtain ⟨y1,y2,c0,c1,c2,c3,c4,c5,c6⟩:=H71.out
 have HV:Hid (RAt (((((((W1.setCell ⟨w.heap.size,0,none⟩ x.kind).setCell ⟨w.heap.size,1,none⟩ x.v.a).setCell ⟨w.heap.size,2,none⟩ x.v.b).setCell ⟨w.heap.size,3,none⟩ x.v.c).setCell ⟨w.heap.size,4,none⟩ (.slice x.A x.v.pre.length x.c)).setCell ⟨w.heap.size,5,none⟩ (.slice x.B x.v.build.length x.d)).setCell ⟨w.heap.size,6,none⟩ (.slice x.L x.n x.e)) w.heap.size x):=setR_at H71.out
 have HBV:Hid (Below w.heap.size w (((((((W1.setCell ⟨w.heap.size,0,none⟩ x.kind).setCell ⟨w.heap.size,1,none⟩ x.v.a).setCell ⟨w.heap.size,2,none⟩ x.v.b).setCell ⟨w.heap.size,3,none⟩ x.v.c).setCell ⟨w.heap.size,4,none⟩ (.slice x.A x.v.pre.length x.c)).setCell ⟨w.heap.size,5,none⟩ (.slice x.B x.v.build.length x.d)).setCell ⟨w.heap.size,6,none⟩ (.slice x.L x.n x.e))):=HB1.out.trans (setR_below _ (Nat.le_refl _) x)
 have HXV:Hid (Lies (((((((W1.setCell ⟨w.heap.size,0,none⟩ x.kind).setCell ⟨w.heap.size,1,none⟩ x.v.a).setCell ⟨w.heap.size,2,none⟩ x.v.b).setCell ⟨w.heap.size,3,none⟩ x.v.c).setCell ⟨w.heap.size,4,none⟩ (.slice x.A x.v.pre.length x.c)).setCell ⟨w.heap.size,5,none⟩ (.slice x.B x.v.build.length x.d)).setCell ⟨w.heap.size,6,none⟩ (.slice x.L x.n x.e)) (From (w.heap.size+1)) r x):=HX.out.keep (setR_keep (Nat.not_succ_le_self _) x)
 clear hx hb1 H7 HB HT hcv HR
 go_upto_region 2 with (fail)
 clear y1 y2 c0 c1 c2 c3 c4 c5 c6 H71 HB1 HX
 generalize (((((((W1.setCell ⟨w.heap.size,0,none⟩ x.kind).setCell ⟨w.heap.size,1,none⟩ x.v.a).setCell ⟨w.heap.size,2,none⟩ x.v.b).setCell ⟨w.heap.size,3,none⟩ x.v.c).setCell ⟨w.heap.size,4,none⟩ (.slice x.A x.v.pre.length x.c)).setCell ⟨w.heap.size,5,none⟩ (.slice x.B x.v.build.length x.d)).setCell ⟨w.heap.size,6,none⟩ (.slice x.L x.n x.e))=V at HV HBV HXV ⊢
 obtain ⟨y1,y2,c0,c1,c2,c3,c4,c5,c6⟩:=HV.out
 by_cases h0:f=0
 ·subst h0
  by_cases h1:q=s.size
  ·have HI2:Hid (pread l=(0,0,r)):=HI.out.trans ((if_neg (by simp)).trans (if_neg (by rw [← HL.out]; simpa using h1)))
   have hb1:((q:Int) != (s.size:Int))=false:=by simp [h1]
   clear h1 HI
   go_wp2
   exact bodyPost_ret (v:=.tuple #[.agg #[x.kind,x.v.a,x.v.b,x.v.c,.slice x.A x.v.pre.length x.c,.slice x.B x.v.build.length x.d,.slice x.L x.n x.e],.int .i64 0,.int .i64 0]) (by simp [results,Tryz.results24,go_sem,c0,c1,c2,c3,c4,c5,c6]) rfl (by rw [HI2.out]; exact par_end (x:=x) (f:=0) (q:=0) HXV.out HBV.out)
  ·have HI2:Hid (pread l=(13,q,noRng)):=HI.out.trans ((if_neg (by simp)).trans (if_pos (by rw [← HL.out]; exact h1)))
   have hb1:((q:Int) != (s.size:Int))=true:=by simp; omega
   clear h1 HI
   go_wp2
   exact bodyPost_ret (v:=.tuple #[.agg #[.int .i64 0,.int .u64 0,.int .u64 0,.int .u64 0,.slice none 0 0,.slice none 0 0,.slice none 0 0],.int .i64 q,.int .i64 13]) (by simp [results,Tryz.results24,go_sem,c0,c1,c2,c3,c4,c5,c6]) rfl (by rw [HI2.out]; exact par_end (x:=zeroRV 0) (f:=13) (Lies.zero _ _ 0) HBV.out)
 ·have HI2:Hid (pread l=(f,q,noRng)):=HI.out.trans (if_pos h0)
  have hb1:((f:Int) != 0)=true:=by simp [h0]
  have hb2:((f:Int) == 0)=false:=by simp [h0]
  clear h0 HI
  go_wp2
  exact bodyPost_ret (v:=.tuple #[.agg #[.int .i64 0,.int .u64 0,.int .u64 0,.int .u64 0,.slice none 0 0,.slice none 0 0,.slice none 0 0],.int .i64 q,.int .i64 f]) (by simp [results,Tryz.results24,go_sem,c0,c1,c2,c3,c4,c5,c6]) rfl (by rw [HI2.out]; exact par_end (x:=zeroRV 0) (Lies.zero _ _ 0) HBV.out)
end Go.Proofs.YtgfbflnhjpbceaaGreatDoor.Range
namespace Go.Proofs.YtgfbflnhjpbceaaGreatDoor.Came
open Go.ChangeShapes Go.WideShapes Go.RowKit Go.Deep
open Range (Rng noRng RV LenOk LtB InS)
theorem ver_full {H:Type} {enc:TypeId × Value→H} {W:World} {fuel:Nat} {l:List Value} {y:DataW H × List MemPlace} (hf:DataW.trod enc Tryz.prog W 0 (fun _=>true) true fuel 25 l=some y) :
  ∃ (v:Semver.Ver) (A:Option Addr) (c:Nat) (B:Option Addr) (d:Nat),l=[.int .u64 v.a,.int .u64 v.b,.int .u64 v.c,.slice A v.pre.length c,.slice B v.build.length d]∧Ident.SRow W A v.pre.length v.pre∧Ident.SRow W B v.build.length v.build∧Range.FitV v∧v.pre.length≤c∧v.build.length≤d:=by
 have hC:Tryz.prog.cellsOf 25=5:=by kernel_rfl
 have cu:Tryz.prog.cellsOf 22=1:=by kernel_rfl
 have ct:Tryz.prog.cellsOf 23=1:=by kernel_rfl
 obtain ⟨xs,n,_,_,hsz,hlen,hg⟩:=DataW.trod_struct Tryz.underlying25 hf
 have hl:xs.length=5:=hlen
 rw [hC] at hsz
 match l,hsz with
 | [z0,z1,z2,z3,z4],_ =>
  match xs,hl with
  | [y0,y1,y2,y3,y4],_ =>
   have f0:DataW.trod enc Tryz.prog W 0 (fun _=>true) true n 22 (([z0,z1,z2,z3,z4].drop 0).take (Tryz.prog.cellsOf 22))=some y0:=hg 0 _ rfl
   rw [cu] at f0
   have g0:DataW.trod enc Tryz.prog W 0 (fun _=>true) true n 22 [z0]=some y0:=f0
   have f1:DataW.trod enc Tryz.prog W 0 (fun _=>true) true n 22 (([z0,z1,z2,z3,z4].drop 1).take (Tryz.prog.cellsOf 22))=some y1:=hg 1 _ rfl
   rw [cu] at f1
   have g1:DataW.trod enc Tryz.prog W 0 (fun _=>true) true n 22 [z1]=some y1:=f1
   have f2:DataW.trod enc Tryz.prog W 0 (fun _=>true) true n 22 (([z0,z1,z2,z3,z4].drop 2).take (Tryz.prog.cellsOf 22))=some y2:=hg 2 _ rfl
   rw [cu] at f2
   have g2:DataW.trod enc Tryz.prog W 0 (fun _=>true) true n 22 [z2]=some y2:=f2
   have f3:DataW.trod enc Tryz.prog W 0 (fun _=>true) true n 23 (([z0,z1,z2,z3,z4].drop 3).take (Tryz.prog.cellsOf 23))=some y3:=hg 3 _ rfl
   rw [ct] at f3
   have g3:DataW.trod enc Tryz.prog W 0 (fun _=>true) true n 23 [z3]=some y3:=f3
   have f4:DataW.trod enc Tryz.prog W 0 (fun _=>true) true n 23 (([z0,z1,z2,z3,z4].drop 4).take (Tryz.prog.cellsOf 23))=some y4:=hg 4 _ rfl
   rw [ct] at f4
   have g4:DataW.trod enc Tryz.prog W 0 (fun _=>true) true n 23 [z4]=some y4:=f4
   clear f0 f1 f2 f3 f4 hg
   obtain ⟨a,rfl,wa⟩:=field_read g0
   obtain ⟨b,rfl,wb⟩:=field_read g1
   obtain ⟨c,rfl,wc⟩:=field_read g2
   obtain ⟨A,m1,c1,p,e1,r1,q1,k1,u1,s1⟩:=texts_at g3
   obtain ⟨B,m2,c2,t,e2,r2,q2,k2,_,s2⟩:=texts_at g4
   simp at e1 e2
   subst e1
   subst e2
   obtain rfl:=r1.1
   obtain rfl:=r2.1
   exact ⟨⟨a,b,c,p,t⟩,A,c1,B,c2,rfl,r1,r2,⟨wa,wb,wc,Nat.le_trans q1 k1,Nat.le_trans q2 k2,s1,s2⟩,q1,q2⟩
theorem ins_of {W:World} {A:Option Addr} {n:Nat} {l:List (List UInt8)} (h:Ident.SRow W A n l):InS (LtB W.heap.size) A n:=by
 intro h0
 obtain ⟨b,o,e,hb,_⟩:=h.2 h0
 exact ⟨b,o,e,hb⟩
theorem rng_at {H:Type} {enc:TypeId × Value→H} {W:World}:∀ (N fuel:Nat) (l:List Value) (y:DataW H × List MemPlace),fuel≤N→DataW.trod enc Tryz.prog W 0 (fun _=>true) true fuel 28 l=some y →
  ∃ (r:Rng) (x:RV),l=x.vals∧Range.Lies W (LtB W.heap.size) r x∧LenOk r
 | 0,fuel,l,y,hN,hf=>by
  obtain ⟨xs,n,e,_⟩:=DataW.trod_struct Tryz.underlying28 hf
  omega
 | N+1,fuel,l,y,hN,hf=>by
  have hC:Tryz.prog.cellsOf 28=7:=by kernel_rfl
  have ci:Tryz.prog.cellsOf 3=1:=by kernel_rfl
  have cv:Tryz.prog.cellsOf 25=5:=by kernel_rfl
  have cl:Tryz.prog.cellsOf 26=1:=by kernel_rfl
  obtain ⟨xs,n,hfn,_,hsz,hlen,hg⟩:=DataW.trod_struct Tryz.underlying28 hf
  have hl:xs.length=3:=hlen
  rw [hC] at hsz
  match l,hsz with
  | [z0,z1,z2,z3,z4,z5,z6],_ =>
   match xs,hl with
   | [y0,y1,y2],_ =>
    have f0:DataW.trod enc Tryz.prog W 0 (fun _=>true) true n 3 (([z0,z1,z2,z3,z4,z5,z6].drop 0).take (Tryz.prog.cellsOf 3))=some y0:=hg 0 _ rfl
    rw [ci] at f0
    have g0:DataW.trod enc Tryz.prog W 0 (fun _=>true) true n 3 [z0]=some y0:=f0
    have f1:DataW.trod enc Tryz.prog W 0 (fun _=>true) true n 25 (([z0,z1,z2,z3,z4,z5,z6].drop 1).take (Tryz.prog.cellsOf 25))=some y1:=hg 1 _ rfl
    rw [cv] at f1
    have g1:DataW.trod enc Tryz.prog W 0 (fun _=>true) true n 25 [z1,z2,z3,z4,z5]=some y1:=f1
    have f2:DataW.trod enc Tryz.prog W 0 (fun _=>true) true n 26 (([z0,z1,z2,z3,z4,z5,z6].drop 6).take (Tryz.prog.cellsOf 26))=some y2:=hg 2 _ rfl
    rw [cl] at f2
    have g2:DataW.trod enc Tryz.prog W 0 (fun _=>true) true n 26 [z6]=some y2:=f2
    clear f0 f1 f2 hg
    obtain ⟨k,rfl⟩:=kind_read g0
    obtain ⟨v,A,c,B,d,e,h1,h2,h3,h4,h5⟩:=ver_full g1
    simp only [List.cons.injEq,and_true] at e
    obtain ⟨rfl,rfl,rfl,rfl,rfl⟩:=e
    rcases DataW.trod_slice Tryz.underlying26 g2 with ⟨hz,_⟩ | ⟨a,len,cap,elems,rest,n2,hn2,hz,_,_,hlc,hcm,hel,hi,_,_⟩
    ·simp only [List.cons.injEq,and_true] at hz
     subst hz
     exact ⟨.mk k v [],⟨k,v,A,c,B,d,none,0,0⟩,rfl,Range.Lies.version k v A c B d h1 h2 (ins_of h1) (ins_of h2) h4 h5 h3,.mk k v [] (by simp) (fun y hy=>by cases hy)⟩
    ·simp only [List.cons.injEq,and_true] at hz
     subst hz
     rw [hC] at hi
     obtain ⟨ps,hpl,hp⟩:=list_of (α:=Rng × RV) (P:=fun i (p:Rng × RV)=>(Range.Lies W (LtB W.heap.size) p.1 p.2∧LenOk p.1)∧∀ j u,p.2.vals[j]?=some u→W.cell? ((a.add (i * 7)).add j)=some u) len fun i hi'=>by
      have h0:=hi i hi'
      rw [List.getElem?_eq_getElem (show i<elems.length by omega),Option.bind_eq_some_iff] at h0
      obtain ⟨cs,hc,ht⟩:=h0
      obtain ⟨_,hcl,hat⟩:=World.cells?_some hc
      obtain ⟨r,x,e,hr,ho⟩:=rng_at N n2 cs _ (by omega) ht
      refine ⟨(r,x),⟨hr,ho⟩,fun j u hu=>?_⟩
      have hj:j<7:=(List.getElem?_eq_some_iff.1 hu).1
      rw [hat j hj,e]; exact hu
     have hgd:∀ j,j<len→(ps.map Prod.fst).getD j noRng=(ps.getD j default).1:=fun j hj=>by
      rw [List.getD_eq_getElem?_getD,List.getD_eq_getElem?_getD,List.getElem?_map,List.getElem?_eq_getElem (show j<ps.length by omega)]; rfl
     refine ⟨.mk k v (ps.map Prod.fst),⟨k,v,A,c,B,d,some a,len,cap⟩,rfl,Range.Lies.mk ⟨k,v,A,c,B,d,some a,len,cap⟩ (ps.map Prod.fst) (fun j=>(ps.getD j default).2) (by simp [hpl]) hlc h1 h2 (ins_of h1) (ins_of h2) h4 h5 h3 (fun e=>by cases e) (fun h0=>?_) (fun j hj=>?_),.mk k v _ (by rw [List.length_map,hpl]; unfold maxLen at hcm; omega) (fun q hq=>?_)⟩
     ·have h0:0<len:=h0
      obtain ⟨b,o,spot⟩:=a
      have h0c:=(hp 0 h0).2 0 _ rfl
      have hspot:spot=none:=by simpa [Addr.add] using World.cell?_spot h0c
      subst hspot
      refine ⟨b,o,rfl,?_,fun j hj i u hu=>?_⟩
      ·have:=World.block_lt_of_cell? W _ h0c
       rwa [Num.add_none,Num.add_none] at this
      ·have e:=(hp j hj).2 i u hu
       rwa [Num.add_none,Num.add_none] at e
     ·rw [hgd j hj]; exact (hp j hj).1.1
     ·obtain ⟨p,hp1,rfl⟩:=List.mem_map.1 hq
      obtain ⟨j,hj,rfl⟩:=List.getElem_of_mem hp1
      have:=(hp j (by omega)).1.2
      simpa [List.getD,List.getElem?_eq_getElem hj] using this
theorem range {H:Type} {enc:TypeId × Value→H} {W:World} {r:Reach} {b0:Nat} {x:Value} {d:DataW H} {ps:List MemPlace} (hv:Value.okWide Tryz.prog W r b0 28 x)
  (h:DataW.Trod enc Tryz.prog W 0 (fun _=>true) true 28 x d ps) :
  ∃ (r:Rng) (y:RV),x=.agg #[y.kind,y.v.a,y.v.b,y.v.c,.slice y.A y.v.pre.length y.c,.slice y.B y.v.build.length y.d,.slice y.L y.n y.e]∧Range.Lies W (LtB W.heap.size) r y∧LenOk r:=by
 obtain ⟨cs,rfl,_⟩:=okWide_struct Tryz.underlying28 hv
 obtain ⟨fuel,hf⟩:=h
 obtain ⟨l⟩:=cs
 obtain ⟨r,y,e,h1,h2⟩:=rng_at fuel fuel l _ (Nat.le_refl _) hf
 exact ⟨r,y,by rw [e]; rfl,h1,h2⟩
end Go.Proofs.YtgfbflnhjpbceaaGreatDoor.Came
