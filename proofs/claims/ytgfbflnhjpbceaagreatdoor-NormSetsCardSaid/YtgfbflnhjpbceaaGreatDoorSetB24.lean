/-
  What the theorem of the last text needs of these: SpCovers, RgOne. Conditions: as each theorem states.
-/
import Derived.Test.YtgfbflnhjpbceaaGreatDoorSetB1
import Derived.Test.YtgfbflnhjpbceaaGreatDoorSetB15
import Derived.Test.YtgfbflnhjpbceaaGreatDoorSetB16
import Derived.Test.YtgfbflnhjpbceaaGreatDoorSetB21
import Derived.StillTailTactics
import Derived.Deep.CutBlock
import Derived.Deep.DeepCutAuto
import Derived.Deep.RegionHeld3
set_option maxRecDepth 100000
set_option maxHeartbeats 25600000
namespace Go.Proofs.YtgfbflnhjpbceaaGreatDoor.Span
open Go.RowKit Num Ident Semver Prec

theorem covers_yes {l:List RSp} {x y:Cut} {k:Nat} (hk:k<l.length) (h:coverOne x y (l.getD k default).sp=true):coversB (l.map RSp.sp) x y=true:=by
 unfold coversB; rw [List.any_eq_true]
 exact ⟨_,List.mem_map_of_mem (getS_mem hk),h⟩
theorem covers_no {l:List RSp} {x y:Cut} (h:∀ j,j<l.length→coverOne x y (l.getD j default).sp=false):coversB (l.map RSp.sp) x y=false:=by
 rw [← Bool.not_eq_true]; unfold coversB; rw [List.any_eq_true]
 rintro ⟨s,hs,k⟩
 obtain ⟨z,hz,rfl⟩:=List.mem_map.1 hs
 obtain ⟨j,hj,rfl⟩:=List.getElem_of_mem hz
 have:=h j hj
 rw [show l.getD j default=l[j] by simp [List.getD,List.getElem?_eq_getElem hj],k] at this
 cases this
theorem covers_any (A:Option Addr) (n c:Nat) (l:List RSp) (x y:RCut) (w:World) (hr:SpRow w A n l) (hn:n≤100000) (hx:Lies w x) (hy:Lies w y) :
  Calls Tryz.prog 69 #[.slice A n c,.agg #[x.kind,x.v.a,x.v.b,x.v.c,.slice x.A x.v.pre.length x.c,.slice x.B x.v.build.length x.d],.agg #[y.kind,y.v.a,y.v.b,y.v.c,.slice y.A y.v.pre.length y.c,.slice y.B y.v.build.length y.d]] w fun e w'=>e=.returned (.bool (coversB (l.map RSp.sp) x.cut y.cut))∧Below w.heap.size w w':=by
 have HB:Hid (Below w.heap.size w ((w.alloc x).alloc y)):=((Below.refl _ _).alloc (Nat.le_refl _) _).alloc (by simp) _
 have HR:=Lib.hid (hr.kept HB.out)
 have HX:=Lib.hid (hx.kept HB.out)
 have HY:=Lib.hid (hy.kept HB.out)
 have K0:Hid (At6B ((w.alloc x).alloc y) w.heap.size x.kind x.v.a x.v.b x.v.c (.slice x.A x.v.pre.length x.c) (.slice x.B x.v.build.length x.d)):=(At6B.new w _ _ _ _ _ _ _).kept ((Below.refl _ _).alloc (Nat.le_refl _) _) (by simp)
 have J0:Hid (At6B ((w.alloc x).alloc y) (w.heap.size+1) y.kind y.v.a y.v.b y.v.c (.slice y.A y.v.pre.length y.c) (.slice y.B y.v.build.length y.d)):=by
  have:=At6B.new (w.alloc x) 41 y.kind y.v.a y.v.b y.v.c (.slice y.A y.v.pre.length y.c) (.slice y.B y.v.build.length y.d)
  rw [size_alloc] at this; exact this
 have HLX:=Lib.hid hr.1
 clear hr hx hy
 go_enter Tryz.func69,Tryz.ntmps69
 go_upto_region 1 with (fail)
 generalize ((w.alloc x).alloc y)=W at HB HR HX HY K0 J0 ⊢
 go_wp2
 go_loopw [7] (fun i W'=>∃ k:Nat,k≤n∧i=.int .i64 k∧Hid (∀ j,j<k→coverOne x.cut y.cut (l.getD j default).sp=false)∧Hid (Below W.heap.size W W')) (fun i _=>n - (intOf i).toNat)
 case atStart=>exact ⟨0,Nat.zero_le _,rfl,(fun j hj=>by omega),Below.refl _ _⟩
 case round =>
  obtain ⟨k,hk,rfl,HT,HW⟩:=hrel
  by_cases hlt:k<n
  ·have HR1:=Lib.hid (HR.out.kept HW.out)
   obtain ⟨b,o,rfl,hb1,hc⟩:=HR1.out.2.2 (by omega)
   have C1:Hid (SpAt wr b (o+k * 12) (l.getD k default)):=hc k hlt
   have LS:=Lib.hid (HR1.out.lies hlt)
   have HYes:Hid (coverOne x.cut y.cut (l.getD k default).sp=true→coversB (l.map RSp.sp) x.cut y.cut=true):=covers_yes (by rw [HLX.out]; exact hlt)
   have HNo:Hid (coverOne x.cut y.cut (l.getD k default).sp=false→∀ j,j<k+1→coverOne x.cut y.cut (l.getD j default).sp=false):=fun h j hj=>by
    rcases Nat.lt_or_ge j k with g | g
    ·exact HT.out j g
    ·obtain rfl:j=k:=by omega
     exact h
   clear hc
   generalize l.getD k default=s at C1 LS HYes HNo
   have K1:=Lib.hid (K0.out.kept HW.out K0.out.1)
   have J1:=Lib.hid (J0.out.kept HW.out J0.out.1)
   have LX:=Lib.hid (HX.out.kept HW.out)
   have LY:=Lib.hid (HY.out.kept HW.out)
   go_upto_region 4 with (fail)
   go_cut [47] (fun z wx=>z=.bool (coverOne x.cut y.cut s.sp)∧Below W.heap.size W wx)
   case first =>
    cases g1:right s.lo.cut
    ·have G1:=Lib.hid g1
     have HF:Hid (coverOne x.cut y.cut s.sp=false):=by unfold Hid coverOne; rw [show right s.sp.lo=false from g1]; rfl
     clear g1
     replace C1:Hid (SpAt wr.drew b (o+k * 12) s):=C1.out
     replace K1:Hid (At6B wr.drew w.heap.size x.kind x.v.a x.v.b x.v.c (.slice x.A x.v.pre.length x.c) (.slice x.B x.v.build.length x.d)):=K1.out
     replace J1:Hid (At6B wr.drew (w.heap.size+1) y.kind y.v.a y.v.b y.v.c (.slice y.A y.v.pre.length y.c) (.slice y.B y.v.build.length y.d)):=J1.out
     replace LS:Hid (LiesS wr.drew s):=LS.out.kept (Below.refl _ _).drew
     replace LX:Hid (Lies wr.drew x):=LX.out.kept (Below.refl _ _).drew
     replace LY:Hid (Lies wr.drew y):=LY.out.kept (Below.refl _ _).drew
     replace HW:=Lib.hid HW.out.drew
     replace hb1:b<wr.drew.heap.size:=hb1
     refine wp_region_held_drew (S:=fun w'=>SpAt w' b (o+k * 12) s∧At6B w' w.heap.size x.kind x.v.a x.v.b x.v.c (.slice x.A x.v.pre.length x.c) (.slice x.B x.v.build.length x.d)∧At6B w' (w.heap.size+1) y.kind y.v.a y.v.b y.v.c (.slice y.A y.v.pre.length y.c) (.slice y.B y.v.build.length y.d)) (by kernel_rfl) ⟨C1.out,K1.out,J1.out⟩ (fun hHeld=>?_)
     refine tk 0 rfl (.slice (some ⟨b,o,none⟩) n c) ?_
     refine tk 1 rfl (.int .i64 k) ?_
     refine tk 2 rfl (.pointer (some ⟨b,o+k * 12,none⟩)) ?_
     refine tk 3 rfl (.pointer (some ⟨b,o+k * 12,none⟩)) ?_
     refine tk 4 rfl s.lo ?_ fun w' hS'=>by obtain ⟨q0,q1,q2,q3,q4,q5,q6,q7,q8,q9,q10,q11⟩:=hS'.1.cells; go_simp
     refine cl 5 rfl fun K hK=>?_
     go_simp
     refine (refRight_any s.lo _ LS.out.lo).mono ?_
     rintro e wq1 ⟨he,hb⟩
     rw [G1.out] at he
     subst he
     replace C1:=Lib.hid (C1.out.kept hb hb1)
     replace K1:=Lib.hid (K1.out.kept hb K1.out.1)
     replace J1:=Lib.hid (J1.out.kept hb J1.out.1)
     replace LS:=Lib.hid (LS.out.kept hb)
     replace LX:=Lib.hid (LX.out.kept hb)
     replace LY:=Lib.hid (LY.out.kept hb)
     replace HW:=Lib.hid (HW.out.trans (hb.mono HW.out.size))
     replace hb1:=Nat.lt_of_lt_of_le hb1 hb.size
     clear hb hHeld
     refine hK.out _ _ ⟨C1.out,K1.out,J1.out⟩ (fun hHeld=>?_)
     clear hK K
     try simp only [Act.put,p1,p2,p3]
     refine tk 6 rfl (.bool false) ?_
     refine sk 7 rfl ?_
     refine sk 8 rfl ?_
     refine sk 9 rfl ?_
     refine sk 10 rfl ?_
     refine sk 11 rfl ?_
     refine sk 12 rfl ?_
     refine tk 13 rfl (.bool false) ?_
     refine tk 14 rfl (.bool false) ?_
     refine sk 15 rfl ?_
     refine sk 16 rfl ?_
     refine sk 17 rfl ?_
     refine sk 18 rfl ?_
     refine sk 19 rfl ?_
     refine sk 20 rfl ?_
     refine sk 21 rfl ?_
     refine sk 22 rfl ?_
     refine tk 23 rfl (.bool false) ?_
     refine tk 24 rfl (.bool false) ?_
     refine sk 25 rfl ?_
     refine sk 26 rfl ?_
     refine sk 27 rfl ?_
     refine sk 28 rfl ?_
     refine sk 29 rfl ?_
     refine sk 30 rfl ?_
     refine sk 31 rfl ?_
     refine sk 32 rfl ?_
     refine tk 33 rfl (.bool false) ?_
     refine wpAnyH_done (by kernel_rfl) ?_ _
     go_wp2
     go_meet
     exact ⟨by rw [HF.out],HW.out⟩
    cases g2:right s.hi.cut
    ·have G1:=Lib.hid g1
     have G2:=Lib.hid g2
     have HF:Hid (coverOne x.cut y.cut s.sp=false):=by unfold Hid coverOne; rw [show right s.sp.hi=false from g2,Bool.and_false]; rfl
     clear g1 g2
     replace C1:Hid (SpAt wr.drew b (o+k * 12) s):=C1.out
     replace K1:Hid (At6B wr.drew w.heap.size x.kind x.v.a x.v.b x.v.c (.slice x.A x.v.pre.length x.c) (.slice x.B x.v.build.length x.d)):=K1.out
     replace J1:Hid (At6B wr.drew (w.heap.size+1) y.kind y.v.a y.v.b y.v.c (.slice y.A y.v.pre.length y.c) (.slice y.B y.v.build.length y.d)):=J1.out
     replace LS:Hid (LiesS wr.drew s):=LS.out.kept (Below.refl _ _).drew
     replace LX:Hid (Lies wr.drew x):=LX.out.kept (Below.refl _ _).drew
     replace LY:Hid (Lies wr.drew y):=LY.out.kept (Below.refl _ _).drew
     replace HW:=Lib.hid HW.out.drew
     replace hb1:b<wr.drew.heap.size:=hb1
     refine wp_region_held_drew (S:=fun w'=>SpAt w' b (o+k * 12) s∧At6B w' w.heap.size x.kind x.v.a x.v.b x.v.c (.slice x.A x.v.pre.length x.c) (.slice x.B x.v.build.length x.d)∧At6B w' (w.heap.size+1) y.kind y.v.a y.v.b y.v.c (.slice y.A y.v.pre.length y.c) (.slice y.B y.v.build.length y.d)) (by kernel_rfl) ⟨C1.out,K1.out,J1.out⟩ (fun hHeld=>?_)
     refine tk 0 rfl (.slice (some ⟨b,o,none⟩) n c) ?_
     refine tk 1 rfl (.int .i64 k) ?_
     refine tk 2 rfl (.pointer (some ⟨b,o+k * 12,none⟩)) ?_
     refine tk 3 rfl (.pointer (some ⟨b,o+k * 12,none⟩)) ?_
     refine tk 4 rfl s.lo ?_ fun w' hS'=>by obtain ⟨q0,q1,q2,q3,q4,q5,q6,q7,q8,q9,q10,q11⟩:=hS'.1.cells; go_simp
     refine cl 5 rfl fun K hK=>?_
     go_simp
     refine (refRight_any s.lo _ LS.out.lo).mono ?_
     rintro e wq1 ⟨he,hb⟩
     rw [G1.out] at he
     subst he
     replace C1:=Lib.hid (C1.out.kept hb hb1)
     replace K1:=Lib.hid (K1.out.kept hb K1.out.1)
     replace J1:=Lib.hid (J1.out.kept hb J1.out.1)
     replace LS:=Lib.hid (LS.out.kept hb)
     replace LX:=Lib.hid (LX.out.kept hb)
     replace LY:=Lib.hid (LY.out.kept hb)
     replace HW:=Lib.hid (HW.out.trans (hb.mono HW.out.size))
     replace hb1:=Nat.lt_of_lt_of_le hb1 hb.size
     clear hb hHeld
     refine hK.out _ _ ⟨C1.out,K1.out,J1.out⟩ (fun hHeld=>?_)
     clear hK K
     try simp only [Act.put,p1,p2,p3]
     refine tk 6 rfl (.bool true) ?_
     refine tk 7 rfl (.slice (some ⟨b,o,none⟩) n c) ?_
     refine tk 8 rfl (.int .i64 k) ?_
     refine tk 9 rfl (.pointer (some ⟨b,o+k * 12,none⟩)) ?_
     refine tk 10 rfl (.pointer (some ⟨b,o+k * 12+6,none⟩)) ?_
     refine tk 11 rfl s.hi ?_ fun w' hS'=>by obtain ⟨q0,q1,q2,q3,q4,q5,q6,q7,q8,q9,q10,q11⟩:=hS'.1.cells; go_simp
     refine cl 12 rfl fun K hK=>?_
     go_simp
     refine (refRight_any s.hi _ LS.out.hi).mono ?_
     rintro e wq2 ⟨he,hb⟩
     rw [G2.out] at he
     subst he
     replace C1:=Lib.hid (C1.out.kept hb hb1)
     replace K1:=Lib.hid (K1.out.kept hb K1.out.1)
     replace J1:=Lib.hid (J1.out.kept hb J1.out.1)
     replace LS:=Lib.hid (LS.out.kept hb)
     replace LX:=Lib.hid (LX.out.kept hb)
     replace LY:=Lib.hid (LY.out.kept hb)
     replace HW:=Lib.hid (HW.out.trans (hb.mono HW.out.size))
     replace hb1:=Nat.lt_of_lt_of_le hb1 hb.size
     clear hb hHeld
     refine hK.out _ _ ⟨C1.out,K1.out,J1.out⟩ (fun hHeld=>?_)
     clear hK K
     try simp only [Act.put,p1,p2,p3]
     refine tk 13 rfl (.bool false) ?_
     refine tk 14 rfl (.bool false) ?_
     refine sk 15 rfl ?_
     refine sk 16 rfl ?_
     refine sk 17 rfl ?_
     refine sk 18 rfl ?_
     refine sk 19 rfl ?_
     refine sk 20 rfl ?_
     refine sk 21 rfl ?_
     refine sk 22 rfl ?_
     refine tk 23 rfl (.bool false) ?_
     refine tk 24 rfl (.bool false) ?_
     refine sk 25 rfl ?_
     refine sk 26 rfl ?_
     refine sk 27 rfl ?_
     refine sk 28 rfl ?_
     refine sk 29 rfl ?_
     refine sk 30 rfl ?_
     refine sk 31 rfl ?_
     refine sk 32 rfl ?_
     refine tk 33 rfl (.bool false) ?_
     refine wpAnyH_done (by kernel_rfl) ?_ _
     go_wp2
     go_meet
     exact ⟨by rw [HF.out],HW.out⟩
    by_cases hd:cmpC s.lo.cut x.cut≤0
    ·have G1:=Lib.hid g1
     have G2:=Lib.hid g2
     have HF:Hid (coverOne x.cut y.cut s.sp=decide (0≤cmpC s.hi.cut y.cut)):=by unfold Hid coverOne; rw [show right s.sp.lo=true from g1,show right s.sp.hi=true from g2,show decide (cmpC s.sp.lo x.cut≤0)=true from decide_eq_true hd]; rfl
     have hd1:decide (cmpC s.lo.cut x.cut≤0)=true:=decide_eq_true hd
     clear g1 g2 hd
     replace C1:Hid (SpAt wr.drew b (o+k * 12) s):=C1.out
     replace K1:Hid (At6B wr.drew w.heap.size x.kind x.v.a x.v.b x.v.c (.slice x.A x.v.pre.length x.c) (.slice x.B x.v.build.length x.d)):=K1.out
     replace J1:Hid (At6B wr.drew (w.heap.size+1) y.kind y.v.a y.v.b y.v.c (.slice y.A y.v.pre.length y.c) (.slice y.B y.v.build.length y.d)):=J1.out
     replace LS:Hid (LiesS wr.drew s):=LS.out.kept (Below.refl _ _).drew
     replace LX:Hid (Lies wr.drew x):=LX.out.kept (Below.refl _ _).drew
     replace LY:Hid (Lies wr.drew y):=LY.out.kept (Below.refl _ _).drew
     replace HW:=Lib.hid HW.out.drew
     replace hb1:b<wr.drew.heap.size:=hb1
     refine wp_region_held_drew (S:=fun w'=>SpAt w' b (o+k * 12) s∧At6B w' w.heap.size x.kind x.v.a x.v.b x.v.c (.slice x.A x.v.pre.length x.c) (.slice x.B x.v.build.length x.d)∧At6B w' (w.heap.size+1) y.kind y.v.a y.v.b y.v.c (.slice y.A y.v.pre.length y.c) (.slice y.B y.v.build.length y.d)) (by kernel_rfl) ⟨C1.out,K1.out,J1.out⟩ (fun hHeld=>?_)
     refine tk 0 rfl (.slice (some ⟨b,o,none⟩) n c) ?_
     refine tk 1 rfl (.int .i64 k) ?_
     refine tk 2 rfl (.pointer (some ⟨b,o+k * 12,none⟩)) ?_
     refine tk 3 rfl (.pointer (some ⟨b,o+k * 12,none⟩)) ?_
     refine tk 4 rfl s.lo ?_ fun w' hS'=>by obtain ⟨q0,q1,q2,q3,q4,q5,q6,q7,q8,q9,q10,q11⟩:=hS'.1.cells; go_simp
     refine cl 5 rfl fun K hK=>?_
     go_simp
     refine (refRight_any s.lo _ LS.out.lo).mono ?_
     rintro e wq1 ⟨he,hb⟩
     rw [G1.out] at he
     subst he
     replace C1:=Lib.hid (C1.out.kept hb hb1)
     replace K1:=Lib.hid (K1.out.kept hb K1.out.1)
     replace J1:=Lib.hid (J1.out.kept hb J1.out.1)
     replace LS:=Lib.hid (LS.out.kept hb)
     replace LX:=Lib.hid (LX.out.kept hb)
     replace LY:=Lib.hid (LY.out.kept hb)
     replace HW:=Lib.hid (HW.out.trans (hb.mono HW.out.size))
     replace hb1:=Nat.lt_of_lt_of_le hb1 hb.size
     clear hb hHeld
     refine hK.out _ _ ⟨C1.out,K1.out,J1.out⟩ (fun hHeld=>?_)
     clear hK K
     try simp only [Act.put,p1,p2,p3]
     refine tk 6 rfl (.bool true) ?_
     refine tk 7 rfl (.slice (some ⟨b,o,none⟩) n c) ?_
     refine tk 8 rfl (.int .i64 k) ?_
     refine tk 9 rfl (.pointer (some ⟨b,o+k * 12,none⟩)) ?_
     refine tk 10 rfl (.pointer (some ⟨b,o+k * 12+6,none⟩)) ?_
     refine tk 11 rfl s.hi ?_ fun w' hS'=>by obtain ⟨q0,q1,q2,q3,q4,q5,q6,q7,q8,q9,q10,q11⟩:=hS'.1.cells; go_simp
     refine cl 12 rfl fun K hK=>?_
     go_simp
     refine (refRight_any s.hi _ LS.out.hi).mono ?_
     rintro e wq2 ⟨he,hb⟩
     rw [G2.out] at he
     subst he
     replace C1:=Lib.hid (C1.out.kept hb hb1)
     replace K1:=Lib.hid (K1.out.kept hb K1.out.1)
     replace J1:=Lib.hid (J1.out.kept hb J1.out.1)
     replace LS:=Lib.hid (LS.out.kept hb)
     replace LX:=Lib.hid (LX.out.kept hb)
     replace LY:=Lib.hid (LY.out.kept hb)
     replace HW:=Lib.hid (HW.out.trans (hb.mono HW.out.size))
     replace hb1:=Nat.lt_of_lt_of_le hb1 hb.size
     clear hb hHeld
     refine hK.out _ _ ⟨C1.out,K1.out,J1.out⟩ (fun hHeld=>?_)
     clear hK K
     try simp only [Act.put,p1,p2,p3]
     refine tk 13 rfl (.bool true) ?_
     refine tk 14 rfl (.bool true) ?_
     refine tk 15 rfl (.slice (some ⟨b,o,none⟩) n c) ?_
     refine tk 16 rfl (.int .i64 k) ?_
     refine tk 17 rfl (.pointer (some ⟨b,o+k * 12,none⟩)) ?_
     refine tk 18 rfl (.pointer (some ⟨b,o+k * 12,none⟩)) ?_
     refine tk 19 rfl s.lo ?_ fun w' hS'=>by obtain ⟨q0,q1,q2,q3,q4,q5,q6,q7,q8,q9,q10,q11⟩:=hS'.1.cells; go_simp
     refine tk 20 rfl x ?_ fun w' hS'=>by obtain ⟨_,⟨_,_,q0,q1,q2,q3,q4,q5⟩,_⟩:=hS'; go_simp
     refine cl 21 rfl fun K hK=>?_
     go_simp
     refine (refCompareC_any s.lo x _ LS.out.lo LX.out).mono ?_
     rintro e wq3 ⟨rfl,hb⟩
     generalize cmpC s.lo.cut x.cut=d1 at hd1 ⊢
     replace C1:=Lib.hid (C1.out.kept hb hb1)
     replace K1:=Lib.hid (K1.out.kept hb K1.out.1)
     replace J1:=Lib.hid (J1.out.kept hb J1.out.1)
     replace LS:=Lib.hid (LS.out.kept hb)
     replace LX:=Lib.hid (LX.out.kept hb)
     replace LY:=Lib.hid (LY.out.kept hb)
     replace HW:=Lib.hid (HW.out.trans (hb.mono HW.out.size))
     replace hb1:=Nat.lt_of_lt_of_le hb1 hb.size
     clear hb hHeld
     refine hK.out _ _ ⟨C1.out,K1.out,J1.out⟩ (fun hHeld=>?_)
     clear hK K
     try simp only [Act.put,p1,p2,p3]
     refine tk 22 rfl (.bool true) ?_
     refine tk 23 rfl (.bool true) ?_
     refine tk 24 rfl (.bool true) ?_
     refine tk 25 rfl (.slice (some ⟨b,o,none⟩) n c) ?_
     refine tk 26 rfl (.int .i64 k) ?_
     refine tk 27 rfl (.pointer (some ⟨b,o+k * 12,none⟩)) ?_
     refine tk 28 rfl (.pointer (some ⟨b,o+k * 12+6,none⟩)) ?_
     refine tk 29 rfl s.hi ?_ fun w' hS'=>by obtain ⟨q0,q1,q2,q3,q4,q5,q6,q7,q8,q9,q10,q11⟩:=hS'.1.cells; go_simp
     refine tk 30 rfl y ?_ fun w' hS'=>by obtain ⟨_,_,⟨_,_,q0,q1,q2,q3,q4,q5⟩⟩:=hS'; go_simp
     refine cl 31 rfl fun K hK=>?_
     go_simp
     refine (refCompareC_any s.hi y _ LS.out.hi LY.out).mono ?_
     rintro e wq4 ⟨rfl,hb⟩
     replace C1:=Lib.hid (C1.out.kept hb hb1)
     replace K1:=Lib.hid (K1.out.kept hb K1.out.1)
     replace J1:=Lib.hid (J1.out.kept hb J1.out.1)
     replace LS:=Lib.hid (LS.out.kept hb)
     replace LX:=Lib.hid (LX.out.kept hb)
     replace LY:=Lib.hid (LY.out.kept hb)
     replace HW:=Lib.hid (HW.out.trans (hb.mono HW.out.size))
     replace hb1:=Nat.lt_of_lt_of_le hb1 hb.size
     clear hb hHeld
     refine hK.out _ _ ⟨C1.out,K1.out,J1.out⟩ (fun hHeld=>?_)
     clear hK K
     try simp only [Act.put,p1,p2,p3]
     refine tk 32 rfl (.bool (decide (0≤cmpC s.hi.cut y.cut))) ?_
     refine tk 33 rfl (.bool (decide (0≤cmpC s.hi.cut y.cut))) ?_
     refine wpAnyH_done (by kernel_rfl) ?_ _
     go_wp2
     go_meet
     exact ⟨by rw [HF.out],HW.out⟩
    ·have G1:=Lib.hid g1
     have G2:=Lib.hid g2
     have HF:Hid (coverOne x.cut y.cut s.sp=false):=by unfold Hid coverOne; rw [show decide (cmpC s.sp.lo x.cut≤0)=false from decide_eq_false hd,Bool.and_false]; rfl
     have hd1:decide (cmpC s.lo.cut x.cut≤0)=false:=decide_eq_false hd
     clear g1 g2 hd
     replace C1:Hid (SpAt wr.drew b (o+k * 12) s):=C1.out
     replace K1:Hid (At6B wr.drew w.heap.size x.kind x.v.a x.v.b x.v.c (.slice x.A x.v.pre.length x.c) (.slice x.B x.v.build.length x.d)):=K1.out
     replace J1:Hid (At6B wr.drew (w.heap.size+1) y.kind y.v.a y.v.b y.v.c (.slice y.A y.v.pre.length y.c) (.slice y.B y.v.build.length y.d)):=J1.out
     replace LS:Hid (LiesS wr.drew s):=LS.out.kept (Below.refl _ _).drew
     replace LX:Hid (Lies wr.drew x):=LX.out.kept (Below.refl _ _).drew
     replace LY:Hid (Lies wr.drew y):=LY.out.kept (Below.refl _ _).drew
     replace HW:=Lib.hid HW.out.drew
     replace hb1:b<wr.drew.heap.size:=hb1
     refine wp_region_held_drew (S:=fun w'=>SpAt w' b (o+k * 12) s∧At6B w' w.heap.size x.kind x.v.a x.v.b x.v.c (.slice x.A x.v.pre.length x.c) (.slice x.B x.v.build.length x.d)∧At6B w' (w.heap.size+1) y.kind y.v.a y.v.b y.v.c (.slice y.A y.v.pre.length y.c) (.slice y.B y.v.build.length y.d)) (by kernel_rfl) ⟨C1.out,K1.out,J1.out⟩ (fun hHeld=>?_)
     refine tk 0 rfl (.slice (some ⟨b,o,none⟩) n c) ?_
     refine tk 1 rfl (.int .i64 k) ?_
     refine tk 2 rfl (.pointer (some ⟨b,o+k * 12,none⟩)) ?_
     refine tk 3 rfl (.pointer (some ⟨b,o+k * 12,none⟩)) ?_
     refine tk 4 rfl s.lo ?_ fun w' hS'=>by obtain ⟨q0,q1,q2,q3,q4,q5,q6,q7,q8,q9,q10,q11⟩:=hS'.1.cells; go_simp
     refine cl 5 rfl fun K hK=>?_
     go_simp
     refine (refRight_any s.lo _ LS.out.lo).mono ?_
     rintro e wq1 ⟨he,hb⟩
     rw [G1.out] at he
     subst he
     replace C1:=Lib.hid (C1.out.kept hb hb1)
     replace K1:=Lib.hid (K1.out.kept hb K1.out.1)
     replace J1:=Lib.hid (J1.out.kept hb J1.out.1)
     replace LS:=Lib.hid (LS.out.kept hb)
     replace LX:=Lib.hid (LX.out.kept hb)
     replace LY:=Lib.hid (LY.out.kept hb)
     replace HW:=Lib.hid (HW.out.trans (hb.mono HW.out.size))
     replace hb1:=Nat.lt_of_lt_of_le hb1 hb.size
     clear hb hHeld
     refine hK.out _ _ ⟨C1.out,K1.out,J1.out⟩ (fun hHeld=>?_)
     clear hK K
     try simp only [Act.put,p1,p2,p3]
     refine tk 6 rfl (.bool true) ?_
     refine tk 7 rfl (.slice (some ⟨b,o,none⟩) n c) ?_
     refine tk 8 rfl (.int .i64 k) ?_
     refine tk 9 rfl (.pointer (some ⟨b,o+k * 12,none⟩)) ?_
     refine tk 10 rfl (.pointer (some ⟨b,o+k * 12+6,none⟩)) ?_
     refine tk 11 rfl s.hi ?_ fun w' hS'=>by obtain ⟨q0,q1,q2,q3,q4,q5,q6,q7,q8,q9,q10,q11⟩:=hS'.1.cells; go_simp
     refine cl 12 rfl fun K hK=>?_
     go_simp
     refine (refRight_any s.hi _ LS.out.hi).mono ?_
     rintro e wq2 ⟨he,hb⟩
     rw [G2.out] at he
     subst he
     replace C1:=Lib.hid (C1.out.kept hb hb1)
     replace K1:=Lib.hid (K1.out.kept hb K1.out.1)
     replace J1:=Lib.hid (J1.out.kept hb J1.out.1)
     replace LS:=Lib.hid (LS.out.kept hb)
     replace LX:=Lib.hid (LX.out.kept hb)
     replace LY:=Lib.hid (LY.out.kept hb)
     replace HW:=Lib.hid (HW.out.trans (hb.mono HW.out.size))
     replace hb1:=Nat.lt_of_lt_of_le hb1 hb.size
     clear hb hHeld
     refine hK.out _ _ ⟨C1.out,K1.out,J1.out⟩ (fun hHeld=>?_)
     clear hK K
     try simp only [Act.put,p1,p2,p3]
     refine tk 13 rfl (.bool true) ?_
     refine tk 14 rfl (.bool true) ?_
     refine tk 15 rfl (.slice (some ⟨b,o,none⟩) n c) ?_
     refine tk 16 rfl (.int .i64 k) ?_
     refine tk 17 rfl (.pointer (some ⟨b,o+k * 12,none⟩)) ?_
     refine tk 18 rfl (.pointer (some ⟨b,o+k * 12,none⟩)) ?_
     refine tk 19 rfl s.lo ?_ fun w' hS'=>by obtain ⟨q0,q1,q2,q3,q4,q5,q6,q7,q8,q9,q10,q11⟩:=hS'.1.cells; go_simp
     refine tk 20 rfl x ?_ fun w' hS'=>by obtain ⟨_,⟨_,_,q0,q1,q2,q3,q4,q5⟩,_⟩:=hS'; go_simp
     refine cl 21 rfl fun K hK=>?_
     go_simp
     refine (refCompareC_any s.lo x _ LS.out.lo LX.out).mono ?_
     rintro e wq3 ⟨rfl,hb⟩
     generalize cmpC s.lo.cut x.cut=d1 at hd1 ⊢
     replace C1:=Lib.hid (C1.out.kept hb hb1)
     replace K1:=Lib.hid (K1.out.kept hb K1.out.1)
     replace J1:=Lib.hid (J1.out.kept hb J1.out.1)
     replace LS:=Lib.hid (LS.out.kept hb)
     replace LX:=Lib.hid (LX.out.kept hb)
     replace LY:=Lib.hid (LY.out.kept hb)
     replace HW:=Lib.hid (HW.out.trans (hb.mono HW.out.size))
     replace hb1:=Nat.lt_of_lt_of_le hb1 hb.size
     clear hb hHeld
     refine hK.out _ _ ⟨C1.out,K1.out,J1.out⟩ (fun hHeld=>?_)
     clear hK K
     try simp only [Act.put,p1,p2,p3]
     refine tk 22 rfl (.bool false) ?_
     refine tk 23 rfl (.bool false) ?_
     refine tk 24 rfl (.bool false) ?_
     refine sk 25 rfl ?_
     refine sk 26 rfl ?_
     refine sk 27 rfl ?_
     refine sk 28 rfl ?_
     refine sk 29 rfl ?_
     refine sk 30 rfl ?_
     refine sk 31 rfl ?_
     refine sk 32 rfl ?_
     refine tk 33 rfl (.bool false) ?_
     refine wpAnyH_done (by kernel_rfl) ?_ _
     go_wp2
     go_meet
     exact ⟨by rw [HF.out],HW.out⟩
   case rest =>
    obtain ⟨rfl,hbx⟩:=hcut
    have HBX:=Lib.hid hbx; clear hbx
    cases hq:coverOne x.cut y.cut s.sp
    ·have HN2:=Lib.hid (HNo.out hq)
     clear hq
     go_wp2
     exact ⟨⟨k+1,by omega,by go_num,HN2.out,HBX.out⟩,by simp [intOf]; omega⟩
    ·have HY2:=Lib.hid (HYes.out hq)
     clear hq
     go_wp2
     go_ret
     exact ⟨by rw [HY2.out]; rfl,HB.out.trans (HBX.out.mono HB.out.size)⟩
  ·have HF:Hid (coversB (l.map RSp.sp) x.cut y.cut=false):=covers_no (fun j hj=>HT.out j (by rw [HLX.out] at hj; omega))
   go_wp2
   go_ret
   exact ⟨by rw [HF.out]; rfl,HB.out.trans (HW.out.mono HB.out.size)⟩
end Go.Proofs.YtgfbflnhjpbceaaGreatDoor.Span
namespace Go.Proofs.YtgfbflnhjpbceaaGreatDoor.Range
open Go.RowKit Num Ident Semver

def oneD (deep:Int) (pe po:List UInt8→Out) (s:List UInt8):Out :=
 if stands [42] s=true then (0,blanks (s.drop 1),noRng)
 else if stands [40] s=true then shutF (insideF deep 1 pe s)
 else if (opOf s).2=[]∧stands [33] s=true then notF (insideF deep 1 po s)
 else verAt (opOf s).1 (blanks (s.drop (opOf s).2.length))
theorem pone_oneD (k:Nat) (d:Int) (h:d+k=64) (s:List UInt8):pone k s=oneD d (exprF (pone (k - 1))) (pone (k - 1)) s:=by
 cases k with
 | zero =>
  have hd:d=64:=by omega
  subst hd
  rw [pone_zero]
  unfold oneF oneD insideF
  rfl
 | succ k =>
  have hd:d≠64:=by omega
  rw [pone_succ,Nat.add_sub_cancel]
  unfold oneF oneD insideF
  rw [if_neg hd,if_neg hd]
theorem op_stands (s:List UInt8):stands (opOf s).2 s=true:=by
 have hop:∀ (l:List (List UInt8)) (k:Int),stands (opFrom s l k).2 s=true:=by
  intro l
  induction l with
  | nil=>intro k; exact stands_nil s
  | cons t r ih =>
   intro k
   rw [opFrom]
   split
   ·rename_i h; exact h
   ·exact ih _
 exact hop _ _
theorem mk_empty:(mk []).toList.isEmpty=true:=(empty_iff _).2 rfl
theorem mk_some {t:List UInt8} (h:t≠[]):(mk t).toList.isEmpty=false:=(empty_no _).2 fun e=>h (List.eq_nil_of_length_eq_zero e)
theorem mk_eq0:((mk []).toList == (⟨#[]⟩:ByteArray).toList)=true:=by rw [show (⟨#[]⟩:ByteArray)=mk [] from rfl]; simp
theorem mk_ne0 {t:List UInt8} (h:t≠[]):((mk t).toList == (⟨#[]⟩:ByteArray).toList)=false:=by
 rw [Lib.toList_data,Lib.toList_data,beq_eq_false_iff_ne]; exact h
theorem one_ok (b:Nat) (A:Option Addr) (n c:Nat) (l:List UInt8) (deep:Int) (pe po:List UInt8→Out) (hc:n≤c) (hd:0≤deep∧deep≤64) (he:deep≠64→PartOK 88 b A n c l (deep+1) pe) (ho:deep≠64→PartOK 142 b A n c l (deep+1) po):PartOK 142 b A n c l deep (oneD deep pe po):=by
 intro w p s hR hr ht hs
 have hbw:=hR.lt
 have HP:=Lib.hid hs
 have HL:=Lib.hid hr.1
 have HR:=Lib.hid hR
 have HRow:=Lib.hid hr
 have HT:=Lib.hid ht
 have H7:Hid (RAt (w.alloc ()) w.heap.size (zeroRV 0)):=RAt.new w 28 (zeroRV 0)
 have HM:Hid (Moved b w (w.alloc ())):=(Moved.refl b w).alloc hbw _
 have HR0:Hid (Rd (w.alloc ()) b A n c p):=hR.alloc _
 have HRow0:Hid (Row (w.alloc ()) A n l):=hr.kept ((Below.refl _ _).alloc (Nat.le_refl _) _)
 have HT0:Hid (OpsTab (w.alloc ())):=ht.keep (Keep.of_below ((Below.refl _ _).alloc (Nat.le_refl _) _))
 have hne:w.heap.size≠b:=by omega
 have hmf:∀ (fn:Fn) (first cap:Array Value) (w:World),(Instr.makeFunc fn first cap).run Tryz.prog w=.ok (.func fn first cap) w:=fun _ _ _ _=>rfl
 clear hR hr hs ht
 have hpn:p≤n:=by have:=HP.out.le; rw [HL.out] at this; exact this
 have HLE:Hid (∀ t:List UInt8,stands t s=true→p+t.length≤n):=fun t h=>by
  have h1:=stands_len h
  rw [HP.out.len,HL.out] at h1
  omega
 have HOS:=Lib.hid (HLE.out _ (op_stands s))
 have HOL:Hid ((opOf s).2.length≤10):=by
  have:=opFrom_kind s
  rcases this with ⟨_,h⟩ | ⟨_,h⟩ | ⟨_,h⟩ | ⟨_,h⟩ | ⟨_,h⟩ | ⟨_,h⟩ | ⟨_,h⟩ | ⟨_,h⟩ | ⟨_,h⟩ <;> (unfold Hid; rw [h]; decide)
 obtain ⟨t,htt⟩:∃ t,oneD deep pe po s=t:=⟨_,rfl⟩
 rw [htt]
 have HT_:Hid ((if stands [42] s=true then (0,blanks (s.drop 1),noRng) else if stands [40] s=true then shutF (insideF deep 1 pe s) else if (opOf s).2=[]∧stands [33] s=true then notF (insideF deep 1 po s) else verAt (opOf s).1 (blanks (s.drop (opOf s).2.length)))=t):=htt
 clear htt
 have HOP:=Lib.hid (fun W h1 h2 h3=>op_any b A n c p l s W h1 h2 hc HP.out h3)
 obtain ⟨⟨kd,o⟩,hop⟩:∃ z,opOf s=z:=⟨_,rfl⟩
 rw [hop] at HOP HT_ HOS HOL
 simp only at HOP HT_ HOS HOL
 clear hop
 go_enter Tryz.func142,Tryz.ntmps142
 go_wp2_with fail
 refine (HOP.out _ HR0.out HRow0.out HT0.out).mono ?_
 rintro e W1 ⟨rfl,hR,hM⟩
 have HM1:=Lib.hid (HM.out.trans hM)
 have H71:=Lib.hid (H7.out.moved hM hne)
 have HR1:=Lib.hid hR
 have HRow1:=Lib.hid (row_keep HRow.out (HR.out.keep HM1.out))
 have HT1:=Lib.hid (HT.out.keep (HR.out.keep HM1.out))
 clear hR hM HR0 HM H7 HRow0 HT0
 go_wp2_with fail
 refine (stands_any b A n c p l s [42] _ HR1.out HRow1.out hc HP.out (by decide)).mono ?_
 rintro e W2 ⟨rfl,hR,hM⟩
 have HM2:=Lib.hid (HM1.out.trans hM)
 have H72:=Lib.hid (H71.out.moved hM hne)
 have HR2:=Lib.hid hR
 have HRow2:=Lib.hid (row_keep HRow.out (HR.out.keep HM2.out))
 have HT2:=Lib.hid (HT.out.keep (HR.out.keep HM2.out))
 clear hR hM HR1 HM1 H71 HRow1 HT1
 cases h42:stands [42] s with
 | true =>
  have HF:Hid (t=(0,blanks (s.drop 1),noRng)):=HT_.out.symm.trans (if_pos h42)
  have hpm:=HLE.out [42] h42
  clear h42
  go_wp2_with fail
  refine (pass_any b A n c p 1 l s _ HR2.out HRow2.out HP.out hpm).mono ?_
  rintro e W3 ⟨rfl,q3,hP,hR,hM⟩
  have HM3:=Lib.hid (HM2.out.trans hM)
  have H73:=Lib.hid (H72.out.moved hM hne)
  have HR3:=Lib.hid hR
  have HP3:=Lib.hid hP
  clear hR hM hP
  obtain ⟨y1,y2,c0,c1,c2,c3,c4,c5,c6⟩:=H73.out
  go_wp2
  exact bodyPost_ret (v:=.tuple #[.agg #[.int .i64 0,.int .u64 0,.int .u64 0,.int .u64 0,.slice none 0 0,.slice none 0 0,.slice none 0 0],.int .i64 0]) (by simp [results,Tryz.results142,go_sem,c0,c1,c2,c3,c4,c5,c6]) rfl (by rw [HF.out]; exact rg_end (x:=zeroRV 0) (f:=0) hbw (Lies.zero _ _ 0) HP3.out HR3.out HM3.out)
 | false =>
  have HT2_:Hid ((if stands [40] s=true then shutF (insideF deep 1 pe s) else if o=[]∧stands [33] s=true then notF (insideF deep 1 po s) else verAt kd (blanks (s.drop o.length)))=t):=(if_neg (by rw [h42]; simp)).symm.trans HT_.out
  clear h42 HT_
  go_wp2_with fail
  refine (stands_any b A n c p l s [40] _ HR2.out HRow2.out hc HP.out (by decide)).mono ?_
  rintro e W3 ⟨rfl,hR,hM⟩
  have HM3:=Lib.hid (HM2.out.trans hM)
  have H73:=Lib.hid (H72.out.moved hM hne)
  have HR3:=Lib.hid hR
  have HRow3:=Lib.hid (row_keep HRow.out (HR.out.keep HM3.out))
  have HT3:=Lib.hid (HT.out.keep (HR.out.keep HM3.out))
  clear hR hM HR2 HM2 H72 HRow2 HT2
  cases h40:stands [40] s with
  | true =>
   have HF:Hid (shutF (insideF deep 1 pe s)=t):=(if_pos h40).symm.trans HT2_.out
   have HST:=Lib.hid h40
   clear h40
   go_wp2_with fail
   refine (bracket_ok b A n c l p s deep pe _ HR3.out HRow3.out HP.out HT3.out hc hd HST.out he).mono ?_
   rw [HF.out]
   rintro e W4 ⟨x,q4,rfl,hx,hP,hR,hM⟩
   unfold RV.agg
   have hz:w.heap.size<W3.heap.size:=H73.out.1
   have HX:Hid (Lies W4 (From (w.heap.size+1)) t.2.2 x):=hx.from_ hz
   have HPx:=Lib.hid hP
   have HRx:=Lib.hid hR
   have HMx:=Lib.hid (HM3.out.trans hM)
   have H7x:=Lib.hid (H73.out.moved hM hne)
   clear hx hP hR hM
   obtain ⟨y1,y2,c0,c1,c2,c3,c4,c5,c6⟩:=H7x.out
   go_wp2
   exact bodyPost_ret (v:=.tuple #[.agg #[x.kind,x.v.a,x.v.b,x.v.c,.slice x.A x.v.pre.length x.c,.slice x.B x.v.build.length x.d,.slice x.L x.n x.e],.int .i64 t.1]) (by simp [results,Tryz.results142,go_sem,c0,c1,c2,c3,c4,c5,c6]) rfl (rg_end (x:=x) (f:=t.1) (s:=t.2.1) (r:=t.2.2) hbw HX.out HPx.out HRx.out HMx.out)
  | false =>
   have HT3_:Hid ((if o=[]∧stands [33] s=true then notF (insideF deep 1 po s) else verAt kd (blanks (s.drop o.length)))=t):=(if_neg (by rw [h40]; simp)).symm.trans HT2_.out
   clear h40 HT2_
   have HVER:Hid (∀ (W:World) (q:Nat) (s2:List UInt8),Rd W b A n c q→Row W A n l→Pl l q s2→Calls Tryz.prog 160 #[.pointer (some ⟨b,0,none⟩),.int .i64 kd] W (RgPost b A n c l W (verAt kd s2))):=fun W q s2 h1 h2 h3=>ver_any b A n c q l s2 kd W h1 h2 hc h3
   have hsz:((mk o).size:Int)=(o.length:Int):=rfl
   have hpo:=HOS.out
   by_cases ho0:o=[]
   ·subst ho0
    have he1:=mk_empty
    have he2:=mk_eq0
    go_wp2_with fail
    refine (stands_any b A n c p l s [33] _ HR3.out HRow3.out hc HP.out (by decide)).mono ?_
    rintro e W4 ⟨rfl,hR,hM⟩
    have HM4:=Lib.hid (HM3.out.trans hM)
    have H74:=Lib.hid (H73.out.moved hM hne)
    have HR4:=Lib.hid hR
    have HRow4:=Lib.hid (row_keep HRow.out (HR.out.keep HM4.out))
    have HT4:=Lib.hid (HT.out.keep (HR.out.keep HM4.out))
    clear hR hM HR3 HM3 H73 HRow3 HT3
    cases h33:stands [33] s with
    | true =>
     have HF:Hid (notF (insideF deep 1 po s)=t):=(if_pos ⟨by first | rfl | trivial,h33⟩).symm.trans HT3_.out
     have HST:=Lib.hid h33
     clear h33
     go_wp2_with fail
     refine (not_ok b A n c l p s deep po _ HR4.out HRow4.out HP.out HT4.out hd HST.out ho).mono ?_
     rw [HF.out]
     rintro e W5 ⟨x,q5,rfl,hx,hP,hR,hM⟩
     unfold RV.agg
     have hz:w.heap.size<W4.heap.size:=H74.out.1
     have HX:Hid (Lies W5 (From (w.heap.size+1)) t.2.2 x):=hx.from_ hz
     have HPx:=Lib.hid hP
     have HRx:=Lib.hid hR
     have HMx:=Lib.hid (HM4.out.trans hM)
     have H7x:=Lib.hid (H74.out.moved hM hne)
     clear hx hP hR hM
     obtain ⟨y1,y2,c0,c1,c2,c3,c4,c5,c6⟩:=H7x.out
     go_wp2
     exact bodyPost_ret (v:=.tuple #[.agg #[x.kind,x.v.a,x.v.b,x.v.c,.slice x.A x.v.pre.length x.c,.slice x.B x.v.build.length x.d,.slice x.L x.n x.e],.int .i64 t.1]) (by simp [results,Tryz.results142,go_sem,c0,c1,c2,c3,c4,c5,c6]) rfl (rg_end (x:=x) (f:=t.1) (s:=t.2.1) (r:=t.2.2) hbw HX.out HPx.out HRx.out HMx.out)
    | false =>
     have HF:Hid (verAt kd (blanks (s.drop ([]:List UInt8).length))=t):=(if_neg (by rw [h33]; simp)).symm.trans HT3_.out
     clear h33
     obtain ⟨s2,hs2⟩:∃ s2,blanks (s.drop ([]:List UInt8).length)=s2:=⟨_,rfl⟩
     rw [hs2] at HF
     go_wp2_with fail
     first
      | refine (pass_any b A n c p ([]:List UInt8).length l s _ HR4.out HRow4.out HP.out hpo).mono ?_
      | (rw [hsz]; refine (pass_any b A n c p ([]:List UInt8).length l s _ HR4.out HRow4.out HP.out hpo).mono ?_)
     rintro e W5 ⟨rfl,q5,hP,hR,hM⟩
     rw [hs2] at hP
     have HP5:=Lib.hid hP
     have HM5:=Lib.hid (HM4.out.trans hM)
     have H75:=Lib.hid (H74.out.moved hM hne)
     have HR5:=Lib.hid hR
     have HRow5:=Lib.hid (row_keep HRow.out (HR.out.keep HM5.out))
     clear hR hM hP hs2
     go_wp2_with fail
     refine (HVER.out W5 q5 s2 HR5.out HRow5.out HP5.out).mono ?_
     rw [HF.out]
     rintro e W6 ⟨x,q6,rfl,hx,hP,hR,hM⟩
     unfold RV.agg
     have hz:w.heap.size<W5.heap.size:=H75.out.1
     have HX:Hid (Lies W6 (From (w.heap.size+1)) t.2.2 x):=hx.from_ hz
     have HPx:=Lib.hid hP
     have HRx:=Lib.hid hR
     have HMx:=Lib.hid (HM5.out.trans hM)
     have H7x:=Lib.hid (H75.out.moved hM hne)
     clear hx hP hR hM
     obtain ⟨y1,y2,c0,c1,c2,c3,c4,c5,c6⟩:=H7x.out
     go_wp2
     exact bodyPost_ret (v:=.tuple #[.agg #[x.kind,x.v.a,x.v.b,x.v.c,.slice x.A x.v.pre.length x.c,.slice x.B x.v.build.length x.d,.slice x.L x.n x.e],.int .i64 t.1]) (by simp [results,Tryz.results142,go_sem,c0,c1,c2,c3,c4,c5,c6]) rfl (rg_end (x:=x) (f:=t.1) (s:=t.2.1) (r:=t.2.2) hbw HX.out HPx.out HRx.out HMx.out)
   ·have he1:=mk_some ho0
    have he2:=mk_ne0 ho0
    have HF:Hid (verAt kd (blanks (s.drop o.length))=t):=(if_neg (fun h=>ho0 h.1)).symm.trans HT3_.out
    clear ho0
    obtain ⟨s2,hs2⟩:∃ s2,blanks (s.drop o.length)=s2:=⟨_,rfl⟩
    rw [hs2] at HF
    go_wp2_with fail
    first
     | refine (pass_any b A n c p o.length l s _ HR3.out HRow3.out HP.out hpo).mono ?_
     | (rw [hsz]; refine (pass_any b A n c p o.length l s _ HR3.out HRow3.out HP.out hpo).mono ?_)
    rintro e W4 ⟨rfl,q4,hP,hR,hM⟩
    rw [hs2] at hP
    have HP4:=Lib.hid hP
    have HM4:=Lib.hid (HM3.out.trans hM)
    have H74:=Lib.hid (H73.out.moved hM hne)
    have HR4:=Lib.hid hR
    have HRow4:=Lib.hid (row_keep HRow.out (HR.out.keep HM4.out))
    clear hR hM hP hs2
    go_wp2_with fail
    refine (HVER.out W4 q4 s2 HR4.out HRow4.out HP4.out).mono ?_
    rw [HF.out]
    rintro e W5 ⟨x,q5,rfl,hx,hP,hR,hM⟩
    unfold RV.agg
    have hz:w.heap.size<W4.heap.size:=H74.out.1
    have HX:Hid (Lies W5 (From (w.heap.size+1)) t.2.2 x):=hx.from_ hz
    have HPx:=Lib.hid hP
    have HRx:=Lib.hid hR
    have HMx:=Lib.hid (HM4.out.trans hM)
    have H7x:=Lib.hid (H74.out.moved hM hne)
    clear hx hP hR hM
    obtain ⟨y1,y2,c0,c1,c2,c3,c4,c5,c6⟩:=H7x.out
    go_wp2
    exact bodyPost_ret (v:=.tuple #[.agg #[x.kind,x.v.a,x.v.b,x.v.c,.slice x.A x.v.pre.length x.c,.slice x.B x.v.build.length x.d,.slice x.L x.n x.e],.int .i64 t.1]) (by simp [results,Tryz.results142,go_sem,c0,c1,c2,c3,c4,c5,c6]) rfl (rg_end (x:=x) (f:=t.1) (s:=t.2.1) (r:=t.2.2) hbw HX.out HPx.out HRx.out HMx.out)
theorem pone_ok (b:Nat) (A:Option Addr) (n c:Nat) (l:List UInt8) (hn:n≤30000000) (hc:n≤c):∀ (k:Nat) (d:Int),0≤d→d+k=64→PartOK 142 b A n c l d (pone k):=by
 have hev:∀ (k:Nat) (d:Int),PartOK 142 b A n c l d (pone k)→PartOK 88 b A n c l d (exprF (pone k)):=fun k d h=>by
  have h1:=every_ok b A n c l d (pone k) hn hc (pone_prog k) (pone_piece k) h
  exact expr_ok b A n c l d (everyF (pone k)) hn hc (everyF_prog (pone_prog k)) (everyF_piece (pone_piece k)) h1
 intro k
 induction k with
 | zero =>
  intro d hd0 hd
  have hd64:d=64:=by omega
  subst hd64
  have h:=one_ok b A n c l 64 (exprF (pone (0 - 1))) (pone (0 - 1)) hc ⟨by omega,by omega⟩ (fun h=>absurd rfl h) (fun h=>absurd rfl h)
  intro W q t h1 h2 h3 h4
  rw [pone_oneD 0 64 (by omega)]
  exact h W q t h1 h2 h3 h4
 | succ k ih =>
  intro d hd0 hd
  have hk:=ih (d+1) (by omega) (by omega)
  have h:=one_ok b A n c l d (exprF (pone (k+1 - 1))) (pone (k+1 - 1)) hc ⟨by omega,by omega⟩ (fun _=>hev k (d+1) hk) (fun _=>hk)
  intro W q t h1 h2 h3 h4
  rw [pone_oneD (k+1) d (by omega)]
  exact h W q t h1 h2 h3 h4
theorem expr64_ok (b:Nat) (A:Option Addr) (n c:Nat) (l:List UInt8) (hn:n≤30000000) (hc:n≤c):PartOK 88 b A n c l 0 (exprF (pone 64)):=by
 have h1:=every_ok b A n c l 0 (pone 64) hn hc (pone_prog 64) (pone_piece 64) (pone_ok b A n c l hn hc 64 0 (by omega) (by omega))
 exact expr_ok b A n c l 0 (everyF (pone 64)) hn hc (everyF_prog (pone_prog 64)) (everyF_piece (pone_piece 64)) h1
end Go.Proofs.YtgfbflnhjpbceaaGreatDoor.Range
