/-
  What the theorem of the last text needs of these: SpEdges, SpHas, MoClone. Conditions: as each theorem states.
-/
import Derived.Test.YtnpjklaaokiikaaGreatDoorPlA1
import Derived.Test.YtnpjklaaokiikaaGreatDoorPlA9
import Derived.Test.YtnpjklaaokiikaaGreatDoorPlA11
import Derived.Test.YtnpjklaaokiikaaGreatDoorPlA12
import Derived.Test.YtnpjklaaokiikaaGreatDoorShelfHas
import Derived.RegionTactic
import Derived.ChangeAlike
import Derived.Lib.SliceRun
set_option maxRecDepth 100000
set_option maxHeartbeats 25600000
namespace Go.Proofs.YtnpjklaaokiikaaGreatDoor.Span
open Go.RowKit Num Ident Semver Prec

def EdgesJ (w:World) (n:Nat) (l:List RSp) (step:Int) (v iv:Value) (W:World):Prop :=
 ∃ (k:Nat) (re:List REdge),k≤n∧iv=.int .i64 k∧W.ownsRow w.heap.size 268 7 v re.length (re.flatMap REdge.vals)∧re.map REdge.edge=edgesOf ((l.take k).map RSp.sp) step∧(∀ e ∈ re,Lies w e.cut)∧re.length≤2 * k∧Below w.heap.size w W
def EdgesPost (w:World) (l:List RSp) (step:Int) (e:Ending) (w':World):Prop :=
 ∃ (v:Value) (re:List REdge),e=.returned v∧w'.ownsRow w.heap.size 268 7 v re.length (re.flatMap REdge.vals)∧re.map REdge.edge=edgesOf (l.map RSp.sp) step∧(∀ e ∈ re,Lies w e.cut)∧re.length≤2 * l.length∧Below w.heap.size w w'
theorem take_sp (l:List RSp) (k:Nat) (h:k<l.length):(l.take (k+1)).map RSp.sp=(l.take k).map RSp.sp ++ [(l.getD k default).sp]:=by
 rw [List.take_succ_eq_append_getElem h,List.map_append]; simp [List.getD,List.getElem?_eq_getElem h]

theorem edges_any (A:Option Addr) (n c:Nat) (l:List RSp) (step:Int) (w:World) (hr:SpRow w A n l) (hn:n≤100000) (h1:-10≤step) (h2:step≤10) :
  Calls Tryz.prog 222 #[.slice A n c,.int .i64 step] w (EdgesPost w l step):=by
 have HR:=Lib.hid hr
 have HL:=Lib.hid hr.1
 clear hr
 go_enter Tryz.func222,Tryz.ntmps222
 go_wp2
 go_loopw [5,10] (fun v i W=>EdgesJ w n l step v i W) (fun _ i _=>n - (intOf i).toNat)
 case atStart=>exact ⟨0,[],Nat.zero_le _,rfl,World.ownsRow_nil _ _ _ _,by simp [edgesOf],(fun e he=>by cases he),Nat.zero_le _,Below.refl _ _⟩
 case round =>
  obtain ⟨k,re,hk,rfl,hown,hmap,hlie,hlen,hbel⟩:=hrel
  have HO:=Lib.hid hown
  have HM:=Lib.hid hmap
  have HI:=Lib.hid hlie
  have HB:=Lib.hid hbel
  have hsz:=hbel.size
  clear hown hmap hlie hbel
  by_cases hlt:k<n
  ·obtain ⟨b,o,rfl,hb,hc⟩:=(HR.out.kept HB.out).2.2 (by omega)
   obtain ⟨x0,x1,x2,x3,x4,x5,x6,x7,x8,x9,x10,x11⟩:=SpRow.cells hc hlt
   have HS0:=Lib.hid (HR.out.lies hlt)
   have HS:=Lib.hid (HS0.out.kept HB.out)
   have HT:=Lib.hid (take_sp l k (by rw [HL.out]; exact hlt))
   clear hc
   generalize l.getD k default=s at x0 x1 x2 x3 x4 x5 x6 x7 x8 x9 x10 x11 HS HS0 HT
   have HW:Hid (Below w.heap.size w (wr.alloc (s.lo,s.hi))):=HB.out.alloc hsz _
   have HS1:=Lib.hid (HS.out.kept ((Below.refl wr.heap.size wr).alloc (Nat.le_refl _) (s.lo,s.hi)))
   have HO1:=Lib.hid (HO.out.alloc (s.lo,s.hi))
   have K1:Hid (At12B (wr.alloc (s.lo,s.hi)) wr.heap.size s.lo.kind s.lo.v.a s.lo.v.b s.lo.v.c (.slice s.lo.A s.lo.v.pre.length s.lo.c) (.slice s.lo.B s.lo.v.build.length s.lo.d) s.hi.kind s.hi.v.a s.hi.v.b s.hi.v.c (.slice s.hi.A s.hi.v.pre.length s.hi.c) (.slice s.hi.B s.hi.v.build.length s.hi.d)):=At12B.new wr _ _ _ _ _ _ _ _ _ _ _ _ _
   go_upto_region 5 with (fail)
   generalize wr.alloc (s.lo,s.hi)=W1 at HW HS1 HO1 K1 ⊢
   clear x0 x1 x2 x3 x4 x5 x6 x7 x8 x9 x10 x11
   obtain ⟨hz1,_,x0,x1,x2,x3,x4,x5,x6,x7,x8,x9,x10,x11⟩:=K1.out
   go_wp2_with fail
   refine (counts_any s _ HS1.out).mono ?_
   rintro e w2 ⟨rfl,hb2⟩
   have HW2:=Lib.hid (HW.out.trans (hb2.mono HW.out.size))
   have HO2:=Lib.hid (own_below HO1.out hb2)
   have K2:=Lib.hid (K1.out.kept hb2 hz1)
   clear hb2 hz1 x0 x1 x2 x3 x4 x5 x6 x7 x8 x9 x10 x11 HS1 HW HO1 K1
   obtain ⟨hz2,_,x0,x1,x2,x3,x4,x5,x6,x7,x8,x9,x10,x11⟩:=K2.out
   cases hcn:cnt s.sp
   ·have HN:Hid (re.map REdge.edge=edgesOf ((l.take (k+1)).map RSp.sp) step):=by unfold Hid; rw [HT.out,edgesOf_snoc_no _ _ hcn]; exact HM.out
    clear hcn
    go_wp2
    exact ⟨⟨k+1,re,by omega,by go_num,HO2.out,HN.out,HI.out,by omega,HW2.out⟩,by simp [intOf]; omega⟩
   ·have HN:Hid ((re ++ [REdge.mk s.lo step,REdge.mk s.hi (-step)]).map REdge.edge=edgesOf ((l.take (k+1)).map RSp.sp) step):=by
     unfold Hid; rw [HT.out,edgesOf_snoc_yes _ _ hcn,List.map_append,HM.out,Int.zero_sub]; rfl
    have HI2:Hid (∀ e ∈ re ++ [REdge.mk s.lo step,REdge.mk s.hi (-step)],Lies w e.cut):=fun e he=>by
     rcases List.mem_append.1 he with he | he
     ·exact HI.out e he
     ·rcases List.mem_cons.1 he with rfl | he
      ·exact HS0.out.lo
      ·rw [List.mem_singleton] at he; subst he; exact HS0.out.hi
    have HO3:=Lib.hid (HO2.out.alloc (.cells #[s.lo.kind,s.lo.v.a,s.lo.v.b,s.lo.v.c,.slice s.lo.A s.lo.v.pre.length s.lo.c,.slice s.lo.B s.lo.v.build.length s.lo.d,.int .i64 step,s.hi.kind,s.hi.v.a,s.hi.v.b,s.hi.v.c,.slice s.hi.A s.hi.v.pre.length s.hi.c,.slice s.hi.B s.hi.v.build.length s.hi.d,.int .i64 (-step)] 268))
    have HW3:=Lib.hid (HW2.out.alloc HW2.out.size (.cells #[s.lo.kind,s.lo.v.a,s.lo.v.b,s.lo.v.c,.slice s.lo.A s.lo.v.pre.length s.lo.c,.slice s.lo.B s.lo.v.build.length s.lo.d,.int .i64 step,s.hi.kind,s.hi.v.a,s.hi.v.b,s.hi.v.c,.slice s.hi.A s.hi.v.pre.length s.hi.c,.slice s.hi.B s.hi.v.build.length s.hi.d,.int .i64 (-step)] 268))
    have hz3:=HW2.out.size
    clear hcn
    go_wp2_with (first
     | (at_builtin; refine wpList_append_ed _ rfl _ _ rfl w.heap.size _ re.length re rfl HO3.out ⟨w2.heap.size,0,none⟩ 2 2 [REdge.mk s.lo step,REdge.mk s.hi (-step)] rfl rfl (news_new w2 _ _) (by omega) (by simp; omega) ?_; intro v4 w4 ho4 hb4; have HB4:=Lib.hid (HW3.out.trans hb4); have HO4:=Lib.hid ho4; clear ho4 hb4)
     | fail)
    refine ⟨⟨k+1,re ++ [REdge.mk s.lo step,REdge.mk s.hi (-step)],by omega,by go_num,?_,HN.out,HI2.out,by rw [List.length_append]; simp; omega,HB4.out⟩,by simp [intOf]; omega⟩
    rw [List.length_append]; exact HO4.out
  ·obtain rfl:k=n:=by omega
   have HN:Hid (re.map REdge.edge=edgesOf (l.map RSp.sp) step):=by have:=HM.out; rwa [List.take_of_length_le (by rw [HL.out]; exact Nat.le_refl _)] at this
   go_wp2
   refine bodyPost_ret (v:=u5) (by simp [results,Tryz.results222,go_sem]) rfl ⟨u5,re,rfl,HO.out,HN.out,HI.out,by rw [HL.out]; exact hlen,HB.out⟩

theorem atLeast_any (m:Int) (w:World) :
  Calls Tryz.prog 223 #[.int .i64 m] w fun e w'=>e=.returned (.func (.func 251) #[] #[.pointer (some ⟨w.heap.size,0,none⟩)])∧w'=w.alloc (.cells #[.int .i64 m] 3):=by
 go_enter Tryz.func223,Tryz.ntmps223
 go_wp2
 go_ret
 exact ⟨rfl,rfl⟩
theorem in_any (t m:Int) (b:Nat) (w:World) (h:w.cell? ⟨b,0,none⟩=some (.int .i64 m)) :
  Calls Tryz.prog 251 #[.int .i64 t,.pointer (some ⟨b,0,none⟩)] w fun e w'=>e=.returned (.bool (decide (m≤t)))∧w=w':=by
 by_cases hm:m≤t
 ·have HF:=Lib.hid (decide_eq_true hm)
  go_enter Tryz.func251,Tryz.ntmps251
  go_wp2
  go_ret
  exact ⟨by rw [HF.out]; rfl,rfl⟩
 ·have HF:=Lib.hid (decide_eq_false hm)
  have hd:decide (m≤t)=false:=HF.out
  go_enter Tryz.func251,Tryz.ntmps251
  go_wp2
  go_ret
  exact ⟨rfl,rfl⟩

end Go.Proofs.YtnpjklaaokiikaaGreatDoor.Span
namespace Go.Proofs.YtnpjklaaokiikaaGreatDoor.Span
open Go.RowKit Num Ident Semver Prec

def hasOne (a b:Cut) (s:Sp):Bool:=decide (cmpC s.lo a≤0) && decide (0≤cmpC s.hi b)

theorem has1_any (s:RSp) (ra rb:RCut) (p1 p2:Nat) (w:World) (h:LiesS w s) (k1:At6B w p1 ra.kind ra.v.a ra.v.b ra.v.c (.slice ra.A ra.v.pre.length ra.c) (.slice ra.B ra.v.build.length ra.d)) (k2:At6B w p2 rb.kind rb.v.a rb.v.b rb.v.c (.slice rb.A rb.v.pre.length rb.c) (.slice rb.B rb.v.build.length rb.d)) (h1:Lies w ra) (h2:Lies w rb) :
  Calls Tryz.prog 127 #[.agg #[s.lo.kind,s.lo.v.a,s.lo.v.b,s.lo.v.c,.slice s.lo.A s.lo.v.pre.length s.lo.c,.slice s.lo.B s.lo.v.build.length s.lo.d,s.hi.kind,s.hi.v.a,s.hi.v.b,s.hi.v.c,.slice s.hi.A s.hi.v.pre.length s.hi.c,.slice s.hi.B s.hi.v.build.length s.hi.d],.pointer (some ⟨p1,0,none⟩),.pointer (some ⟨p2,0,none⟩)] w fun e w'=>e=.returned (.bool (hasOne ra.cut rb.cut s.sp))∧Below w.heap.size w w':=by
 have HBa:Hid (Below w.heap.size w (w.alloc (s.lo,s.hi))):=(Below.refl _ _).alloc (Nat.le_refl _) _
 have HL:=Lib.hid (h.kept HBa.out)
 have HA:=Lib.hid (h1.kept HBa.out)
 have HB:=Lib.hid (h2.kept HBa.out)
 have K0:Hid (At12B (w.alloc (s.lo,s.hi)) w.heap.size s.lo.kind s.lo.v.a s.lo.v.b s.lo.v.c (.slice s.lo.A s.lo.v.pre.length s.lo.c) (.slice s.lo.B s.lo.v.build.length s.lo.d) s.hi.kind s.hi.v.a s.hi.v.b s.hi.v.c (.slice s.hi.A s.hi.v.pre.length s.hi.c) (.slice s.hi.B s.hi.v.build.length s.hi.d)):=At12B.new w _ _ _ _ _ _ _ _ _ _ _ _ _
 have Y0:=Lib.hid (k1.kept HBa.out k1.1)
 have Z0:=Lib.hid (k2.kept HBa.out k2.1)
 clear h h1 h2 k1 k2
 have HF:Hid (hasOne ra.cut rb.cut s.sp=(decide (cmpC s.lo.cut ra.cut≤0) && decide (0≤cmpC s.hi.cut rb.cut))):=rfl
 go_enter Tryz.func127,Tryz.ntmps127
 go_upto_region 1 with (fail)
 generalize (w.alloc (s.lo,s.hi))=W at HBa HL HA HB K0 Y0 Z0 ⊢
 obtain ⟨hz,_,x0,x1,x2,x3,x4,x5,x6,x7,x8,x9,x10,x11⟩:=K0.out
 obtain ⟨hy,_,y0,y1,y2,y3,y4,y5⟩:=Y0.out
 go_wp2_with fail
 refine (compareC_any s.lo ra _ HL.out.lo HA.out).mono ?_
 rintro e w1 ⟨rfl,hb1⟩
 have K1:=Lib.hid (K0.out.kept hb1 hz)
 have Z1:=Lib.hid (Z0.out.kept hb1 Z0.out.1)
 have L1:=Lib.hid (HL.out.kept hb1)
 have M1:=Lib.hid (HB.out.kept hb1)
 have B1:=Lib.hid (HBa.out.trans (hb1.mono HBa.out.size))
 clear hb1 hz hy x0 x1 x2 x3 x4 x5 x6 x7 x8 x9 x10 x11 y0 y1 y2 y3 y4 y5
 obtain ⟨hz1,_,x0,x1,x2,x3,x4,x5,x6,x7,x8,x9,x10,x11⟩:=K1.out
 obtain ⟨_,_,z0,z1,z2,z3,z4,z5⟩:=Z1.out
 generalize cmpC s.lo.cut ra.cut=c1 at HF ⊢
 by_cases hc:c1≤0
 ·have hd:decide (c1≤0)=true:=decide_eq_true hc
  go_wp2_with fail
  refine (compareC_any s.hi rb _ L1.out.hi M1.out).mono ?_
  rintro e w2 ⟨rfl,hb2⟩
  have B2:=Lib.hid (B1.out.trans (hb2.mono B1.out.size))
  clear hb2 x0 x1 x2 x3 x4 x5 x6 x7 x8 x9 x10 x11 z0 z1 z2 z3 z4 z5
  generalize cmpC s.hi.cut rb.cut=c2 at HF ⊢
  by_cases hc2:0≤c2
  ·have HF2:Hid (hasOne ra.cut rb.cut s.sp=true):=by have:=HF.out; unfold Hid; rw [this]; simp [hc,hc2]
   clear HF
   go_wp2
   go_ret
   exact ⟨by rw [HF2.out]; rfl,B2.out⟩
  ·have HF2:Hid (hasOne ra.cut rb.cut s.sp=false):=by have:=HF.out; unfold Hid; rw [this]; simp [hc]; omega
   have hd2:decide (0≤c2)=false:=decide_eq_false hc2
   clear HF
   go_wp2
   go_ret
   exact ⟨by rw [HF2.out]; rfl,B2.out⟩
 ·have HF2:Hid (hasOne ra.cut rb.cut s.sp=false):=by have:=HF.out; unfold Hid; rw [this,decide_eq_false hc]; rfl
  have hd:decide (c1≤0)=false:=decide_eq_false hc
  clear HF
  go_wp2
  go_ret
  exact ⟨by rw [HF2.out]; rfl,B1.out⟩

structure LaidS (w:World) where
 s:RSp
 h:LiesS w s
instance (w:World):Inhabited (LaidS w):=⟨⟨⟨rlow,rlow⟩,⟨Lies.low w,Lies.low w⟩⟩⟩
theorem index_none (P:Option Addr) (c:Nat) (f:Value) (w:World):Calls Tryz.prog 177 #[.slice P 0 c,f] w fun e w'=>e=.returned (.int .i64 (-1))∧w=w':=by
 go_enter Tryz.func177,Tryz.ntmps177
 go_wp2
 go_loop [5,8] (fun _ i=>i=.int .i64 0) (fun _ _=>0)
 case atStart=>rfl
 case round =>
  subst hrel
  go_wp2
  go_ret
  exact ⟨rfl,rfl⟩
theorem contains_none (P:Option Addr) (c:Nat) (f:Value) (w:World):Calls Tryz.prog 126 #[.slice P 0 c,f] w fun e w'=>e=.returned (.bool false)∧w=w':=by
 go_enter Tryz.func126,Tryz.ntmps126
 go_wp2_with fail
 refine (index_none _ _ _ _).mono ?_
 rintro e w' ⟨rfl,rfl⟩
 go_wp2
 go_ret
 exact ⟨rfl,rfl⟩
theorem contains_any (P:Option Addr) (n c:Nat) (l:List RSp) (p1 p2:Nat) (ra rb:RCut) (w:World) (hr:SpRow w P n l) (hn:n≤100000) (k1:At6B w p1 ra.kind ra.v.a ra.v.b ra.v.c (.slice ra.A ra.v.pre.length ra.c) (.slice ra.B ra.v.build.length ra.d)) (k2:At6B w p2 rb.kind rb.v.a rb.v.b rb.v.c (.slice rb.A rb.v.pre.length rb.c) (.slice rb.B rb.v.build.length rb.d)) (h1:Lies w ra) (h2:Lies w rb) :
  Calls Tryz.prog 126 #[.slice P n c,.func (.func 127) #[] #[.pointer (some ⟨p1,0,none⟩),.pointer (some ⟨p2,0,none⟩)]] w fun e w'=>e=.returned (.bool ((l.map RSp.sp).any (hasOne ra.cut rb.cut)))∧Below w.heap.size w w':=by
 obtain ⟨hl,hlie,hc⟩:=hr
 rcases Nat.eq_zero_or_pos n with h0 | h0
 ·subst h0
  obtain rfl:l=[]:=List.eq_nil_of_length_eq_zero hl
  exact (contains_none P c _ w).mono fun e w' ⟨he,hw⟩=>⟨he,by subst hw; exact Below.refl _ _⟩
 ·obtain ⟨b,o,rfl,hb,hcell⟩:=hc h0
  obtain ⟨zs,hz⟩:∃ zs:List (LaidS w),zs.map LaidS.s=l:=⟨l.pmap (fun s h=>(⟨s,h⟩:LaidS w)) hlie,by simp [List.map_pmap]⟩
  have hzl:zs.length=n:=by rw [← hl,← hz,List.length_map]
  have hp:PredBelow Tryz.prog 127 #[.pointer (some ⟨p1,0,none⟩),.pointer (some ⟨p2,0,none⟩)] (fun x:LaidS w=>.agg x.s.vals.toArray) (fun x=>hasOne ra.cut rb.cut x.s.sp) w:=by
   intro W x hB
   exact (has1_any x.s ra rb p1 p2 W (x.h.kept hB) (k1.kept hB k1.1) (k2.kept hB k2.1) (h1.kept hB) (h2.kept hB)).mono fun e w' ⟨he,hb'⟩=>⟨he,hB.trans (hb'.mono hB.size)⟩
  have hcon:=AnyQ.slices_ContainsFunc Tryz.hasL 12 Tryz.isAgg190 Tryz.sizeOf190 (fun x:LaidS w=>x.s.vals) (fun _=>rfl) (fun x=>hasOne ra.cut rb.cut x.s.sp) 127 #[.pointer (some ⟨p1,0,none⟩),.pointer (some ⟨p2,0,none⟩)] (enters_of Tryz.func127 (by kernel_rfl) rfl) b o n c zs w hp (by rw [hzl]; exact Nat.le_refl _) (by omega) hb
   (fun j hj i v hv=>hcell j (by omega) i v (by
    have e:l.getD j default=zs[j]!.s:=by
     rw [getElem!_pos zs j hj,← hz]; simp [List.getD,hj]
    rw [e]; exact hv))
  refine hcon.mono fun e w' ⟨he,hb'⟩=>⟨?_,hb'⟩
  rw [he,List.take_of_length_le (by rw [hzl]; exact Nat.le_refl _),← hz,List.map_map,List.any_map]; rfl

theorem has_any (P:Option Addr) (n c:Nat) (l:List RSp) (v:Ver) (A:Option Addr) (cA:Nat) (B:Option Addr) (cB:Nat) (w:World) (hr:SpRow w P n l) (hn:n≤100000) (h1:SRow w A v.pre.length v.pre) (hf:Fit v.pre) :
  Calls Tryz.prog 68 #[.slice P n c,.agg #[v.a,v.b,v.c,.slice A v.pre.length cA,.slice B v.build.length cB]] w fun e w'=>e=.returned (.bool ((l.map RSp.sp).any (hasOne (aheadOf v) (behindOf v))))∧Below w.heap.size w w':=by
 have HR:=Lib.hid hr
 have HS:=Lib.hid h1
 have HF:=Lib.hid hf
 clear hr h1 hf
 generalize hg:(l.map RSp.sp).any (hasOne (aheadOf v) (behindOf v))=g
 have HG:=Lib.hid hg
 clear hg
 go_enter Tryz.func68,Tryz.ntmps68
 go_upto_region 2 with (fail)
 go_region
 ·have HB:Hid (Below w.heap.size w (((w.alloc (.cells #[v.a,v.b,v.c,.slice A v.pre.length cA,.slice none 0 0] 34)).alloc (.cells #[.int .i64 1,v.a,v.b,v.c,.slice A v.pre.length cA,.slice none 0 0] 187)).alloc (.cells #[.int .i64 2,v.a,v.b,v.c,.slice A v.pre.length cA,.slice none 0 0] 187)).drew):=(((((Below.refl _ _).alloc (Nat.le_refl _) _).alloc (by simp) _).alloc (by simp; omega) _)).drew
  have Q1:Hid (At6B (((w.alloc (.cells #[v.a,v.b,v.c,.slice A v.pre.length cA,.slice none 0 0] 34)).alloc (.cells #[.int .i64 1,v.a,v.b,v.c,.slice A v.pre.length cA,.slice none 0 0] 187)).alloc (.cells #[.int .i64 2,v.a,v.b,v.c,.slice A v.pre.length cA,.slice none 0 0] 187)).drew (w.heap.size+1) (.int .i64 1) v.a v.b v.c (.slice A v.pre.length cA) (.slice none 0 0)):=by
   have q:=(At6B.new (w.alloc (.cells #[v.a,v.b,v.c,.slice A v.pre.length cA,.slice none 0 0] 34)) 187 (.int .i64 1) v.a v.b v.c (.slice A v.pre.length cA) (.slice none 0 0)).kept ((Below.refl _ _).alloc (Nat.le_refl _) (.cells #[.int .i64 2,v.a,v.b,v.c,.slice A v.pre.length cA,.slice none 0 0] 187)) (by simp)
   rw [size_alloc] at q; exact q
  have Q2:Hid (At6B (((w.alloc (.cells #[v.a,v.b,v.c,.slice A v.pre.length cA,.slice none 0 0] 34)).alloc (.cells #[.int .i64 1,v.a,v.b,v.c,.slice A v.pre.length cA,.slice none 0 0] 187)).alloc (.cells #[.int .i64 2,v.a,v.b,v.c,.slice A v.pre.length cA,.slice none 0 0] 187)).drew (w.heap.size+1+1) (.int .i64 2) v.a v.b v.c (.slice A v.pre.length cA) (.slice none 0 0)):=by
   have q:=At6B.new ((w.alloc (.cells #[v.a,v.b,v.c,.slice A v.pre.length cA,.slice none 0 0] 34)).alloc (.cells #[.int .i64 1,v.a,v.b,v.c,.slice A v.pre.length cA,.slice none 0 0] 187)) 187 (.int .i64 2) v.a v.b v.c (.slice A v.pre.length cA) (.slice none 0 0)
   rw [size_alloc,size_alloc] at q; exact q
  generalize (((w.alloc (.cells #[v.a,v.b,v.c,.slice A v.pre.length cA,.slice none 0 0] 34)).alloc (.cells #[.int .i64 1,v.a,v.b,v.c,.slice A v.pre.length cA,.slice none 0 0] 187)).alloc (.cells #[.int .i64 2,v.a,v.b,v.c,.slice A v.pre.length cA,.slice none 0 0] 187)).drew=W at HB Q1 Q2 ⊢
  have HV:Hid (SRow W A v.pre.length v.pre):=HS.out.kept HB.out
  go_wp2_with fail
  refine (contains_any P n c l _ _ ⟨1,bare v,A,cA,none,0⟩ ⟨2,bare v,A,cA,none,0⟩ _ (HR.out.kept HB.out) hn Q1.out Q2.out ⟨HV.out,SRow.none_ _ _,HF.out,Fit.nil⟩ ⟨HV.out,SRow.none_ _ _,HF.out,Fit.nil⟩).mono ?_
  rintro e w1 ⟨he,hb1⟩
  have he2:e=.returned (.bool g):=by rw [← HG.out]; exact he
  subst he2
  clear he
  have B1:=Lib.hid (HB.out.trans (hb1.mono HB.out.size))
  clear hb1
  go_wp2
  go_ret
  exact ⟨rfl,B1.out⟩
 ·have HB:Hid (Below w.heap.size w (((w.alloc (.cells #[v.a,v.b,v.c,.slice A v.pre.length cA,.slice none 0 0] 34)).alloc (.cells #[.int .i64 2,v.a,v.b,v.c,.slice A v.pre.length cA,.slice none 0 0] 187)).alloc (.cells #[.int .i64 1,v.a,v.b,v.c,.slice A v.pre.length cA,.slice none 0 0] 187)).drew):=(((((Below.refl _ _).alloc (Nat.le_refl _) _).alloc (by simp) _).alloc (by simp; omega) _)).drew
  have Q1:Hid (At6B (((w.alloc (.cells #[v.a,v.b,v.c,.slice A v.pre.length cA,.slice none 0 0] 34)).alloc (.cells #[.int .i64 2,v.a,v.b,v.c,.slice A v.pre.length cA,.slice none 0 0] 187)).alloc (.cells #[.int .i64 1,v.a,v.b,v.c,.slice A v.pre.length cA,.slice none 0 0] 187)).drew (w.heap.size+1) (.int .i64 2) v.a v.b v.c (.slice A v.pre.length cA) (.slice none 0 0)):=by
   have q:=(At6B.new (w.alloc (.cells #[v.a,v.b,v.c,.slice A v.pre.length cA,.slice none 0 0] 34)) 187 (.int .i64 2) v.a v.b v.c (.slice A v.pre.length cA) (.slice none 0 0)).kept ((Below.refl _ _).alloc (Nat.le_refl _) (.cells #[.int .i64 1,v.a,v.b,v.c,.slice A v.pre.length cA,.slice none 0 0] 187)) (by simp)
   rw [size_alloc] at q; exact q
  have Q2:Hid (At6B (((w.alloc (.cells #[v.a,v.b,v.c,.slice A v.pre.length cA,.slice none 0 0] 34)).alloc (.cells #[.int .i64 2,v.a,v.b,v.c,.slice A v.pre.length cA,.slice none 0 0] 187)).alloc (.cells #[.int .i64 1,v.a,v.b,v.c,.slice A v.pre.length cA,.slice none 0 0] 187)).drew (w.heap.size+1+1) (.int .i64 1) v.a v.b v.c (.slice A v.pre.length cA) (.slice none 0 0)):=by
   have q:=At6B.new ((w.alloc (.cells #[v.a,v.b,v.c,.slice A v.pre.length cA,.slice none 0 0] 34)).alloc (.cells #[.int .i64 2,v.a,v.b,v.c,.slice A v.pre.length cA,.slice none 0 0] 187)) 187 (.int .i64 1) v.a v.b v.c (.slice A v.pre.length cA) (.slice none 0 0)
   rw [size_alloc,size_alloc] at q; exact q
  generalize (((w.alloc (.cells #[v.a,v.b,v.c,.slice A v.pre.length cA,.slice none 0 0] 34)).alloc (.cells #[.int .i64 2,v.a,v.b,v.c,.slice A v.pre.length cA,.slice none 0 0] 187)).alloc (.cells #[.int .i64 1,v.a,v.b,v.c,.slice A v.pre.length cA,.slice none 0 0] 187)).drew=W at HB Q1 Q2 ⊢
  have HV:Hid (SRow W A v.pre.length v.pre):=HS.out.kept HB.out
  go_wp2_with fail
  refine (contains_any P n c l _ _ ⟨1,bare v,A,cA,none,0⟩ ⟨2,bare v,A,cA,none,0⟩ _ (HR.out.kept HB.out) hn Q2.out Q1.out ⟨HV.out,SRow.none_ _ _,HF.out,Fit.nil⟩ ⟨HV.out,SRow.none_ _ _,HF.out,Fit.nil⟩).mono ?_
  rintro e w1 ⟨he,hb1⟩
  have he2:e=.returned (.bool g):=by rw [← HG.out]; exact he
  subst he2
  clear he
  have B1:=Lib.hid (HB.out.trans (hb1.mono HB.out.size))
  clear hb1
  go_wp2
  go_ret
  exact ⟨rfl,B1.out⟩

end Go.Proofs.YtnpjklaaokiikaaGreatDoor.Span
namespace Go.Proofs.YtnpjklaaokiikaaGreatDoor.Copy
open Go.RowKit Num Ident Semver Fr
open Range (Rng noRng RV Lies RgRow CellsAt KeepS LtB InS FitV wt wtL)
open KR (KRow)

def OwnPost (w:World) (E:TypeId) (k n:Nat) (xs:List Value) (e:Ending) (w':World):Prop:=∃ v,e=.returned v∧w'.ownsRow w.heap.size E k v n xs∧Below w.heap.size w w'
theorem srow_nil {w:World} {n:Nat} {l:List (List UInt8)} (h:SRow w none n l):n=0∧l=[]:=by
 rcases Nat.eq_zero_or_pos n with h0 | h0
 ·exact ⟨h0,List.eq_nil_of_length_eq_zero (by rw [h.1]; exact h0)⟩
 ·obtain ⟨b,o,e,_⟩:=h.2 h0
  cases e
theorem run_append_str (w:World) (ty:TypeId) (base:Nat) (v:Value) (n:Nat) (xs:List (List UInt8)) (hown:w.ownsRow base 9 1 v n (strs xs))
  (ad:Addr) (m c:Nat) (ys:List (List UInt8)) (hr:SRow w (some ad) m ys) (hm:n+m≤maxLen) (hb:(n+m) * 16≤140737488355328) (hbase:base≤w.heap.size) :
  ∃ v' w',(Builtin.append_ #[32,32] ty #[v,.slice (some ad) m c]).run Tryz.prog w=.ok v' w'∧w'.ownsRow base 9 1 v' (n+m) (strs (xs ++ ys))∧w.grownBy w' v.ownBlock:=by
 obtain ⟨i,hi,hz,hs,hby⟩:=info_parts strInfo
 obtain ⟨v',w',h1,h2,h3,_⟩:=run_append_own (P:=Tryz.prog) w base 32 ty 9 i (.string ⟨#[]⟩) 1 16 Tryz.underlying32 hi hz hs hby rfl (by omega) v n _ hown ad m c (strs ys)
  (by rw [strs_length,hr.1,Nat.mul_one]) hr.news (strs_one ys) hm hb hbase
 exact ⟨v',w',h1,by rw [strs_append]; exact h2,h3⟩
theorem wpList_ran {P:Program} {w:World} {ops:Array Oper} {rest:List Oper} {o:Oper} {a:Act} {Q:Exit→Act→World→Prop} {T:TypeId} {s x:Operand} {sv xv v':Value} {w':World} (hg:o.guard=none)
  (ho:o.op=.call { callee:=.builtin .append,args:=#[s,x],argTypes:=#[T,T] }) (hs:a.eval s=sv) (hx:a.eval x=xv) (hrun:(Builtin.append_ #[T,T] o.type #[sv,xv]).run P w=.ok v' w')
  (h:wpList P ops Q rest (a.put o.dst v') w'):wpList P ops Q (o :: rest) a w:=by
 refine wpList_plain hg fun K hK=>?_
 unfold Oper.wp execOp
 simp only [ho,resolve,invoke,builtin,Sem.run_bind,Sem.run_pure,Result.andThen_ok,List.map_toArray,List.map_cons,List.map_nil,hs,hx,hrun]
 exact hK _ _ h
theorem infoRange:(Tryz.prog.info? 55).map (fun i=>(i.zero,i.size,i.bytes))=some (some (.agg #[.int .i64 0,.int .u64 0,.int .u64 0,.int .u64 0,.slice none 0 0,.slice none 0 0,.slice none 0 0]),7,104):=by kernel_rfl
theorem oneRange:∀ x:RV,∀ u ∈ x.vals,u.oneCell'=true:=Range.rv_one
theorem cloneStr_any (A:Option Addr) (n c:Nat) (l:List (List UInt8)) (w:World) (h:SRow w A n l) (hb:n * 16≤140737488355328) (hn:n≤maxLen) :
  Calls Tryz.prog 140 #[.slice A n c] w (OwnPost w 9 1 n (strs l)):=by
 have qN:∀ (w:World) (a:Option Addr) (n c n' c':Nat),(binOp .eql 32 (.slice a n c) (.slice none n' c')).run Tryz.prog w=.ok (.bool a.isNone) w:=fun w a n c n' c'=>Lib.run_eql_slice_nil w _ _ a n c n' c' Tryz.underlying32
 cases A with
 | none =>
  obtain ⟨rfl,rfl⟩:=srow_nil h
  go_enter Tryz.func140,Tryz.ntmps140
  go_wp2
  go_ret
  exact ⟨_,rfl,World.ownsRow_nil _ _ _ _,Below.refl _ _⟩
 | some ad =>
  have H0:Hid ((w.alloc (.cells #[] 9)).ownsRow w.heap.size 9 1 (.slice (some ⟨w.heap.size,0,none⟩) 0 0) 0 []):=World.ownsRow_made w #[] 0 (Nat.le_refl _) (Nat.zero_le _) rfl
  have HB:Hid (Below w.heap.size w (w.alloc (.cells #[] 9))):=(Below.refl _ _).alloc (Nat.le_refl _) _
  have HR:Hid (SRow (w.alloc (.cells #[] 9)) (some ad) n l):=h.kept HB.out
  have hbz:w.heap.size≤(w.alloc (.cells #[] 9)).heap.size:=HB.out.size
  obtain ⟨v',w',hrun,hown,hgr⟩:=run_append_str _ 32 w.heap.size _ 0 [] H0.out ad n c l HR.out (by omega) (by omega) hbz
  have HO:=Lib.hid hown
  have HG:=Lib.hid hgr
  clear hown hgr h
  go_enter Tryz.func140,Tryz.ntmps140
  go_wp2_with (first
   | (at_builtin; refine wpList_ran rfl rfl rfl rfl hrun ?_)
   | go_in)
  clear hrun hbz
  go_wp2
  go_ret
  exact ⟨_,rfl,by simpa using HO.out,HB.out.trans (by
   have:=HG.out
   exact (Below.refl _ _).grown this HB.out.size (fun g e=>by injection e with e; rw [← e]; exact Nat.le_refl _))⟩
theorem cloneRange_any (A:Option Addr) (n c:Nat) (l:List RV) (S:Nat→Prop) (w:World) (h:KRow RV.vals 7 w S A n l) (hb:n * 104≤140737488355328) (hn:n≤maxLen) :
  Calls Tryz.prog 142 #[.slice A n c] w (OwnPost w 55 7 n (l.flatMap RV.vals)):=by
 have qN:∀ (w:World) (a:Option Addr) (n c n' c':Nat),(binOp .eql 53 (.slice a n c) (.slice none n' c')).run Tryz.prog w=.ok (.bool a.isNone) w:=fun w a n c n' c'=>Lib.run_eql_slice_nil w _ _ a n c n' c' Tryz.underlying53
 cases A with
 | none =>
  obtain ⟨rfl,rfl⟩:=h.nil
  go_enter Tryz.func142,Tryz.ntmps142
  go_wp2
  go_ret
  exact ⟨_,rfl,World.ownsRow_nil _ _ _ _,Below.refl _ _⟩
 | some ad =>
  have H0:Hid ((w.alloc (.cells #[] 55)).ownsRow w.heap.size 55 7 (.slice (some ⟨w.heap.size,0,none⟩) 0 0) 0 []):=World.ownsRow_made w #[] 0 (Nat.le_refl _) (Nat.zero_le _) rfl
  have HB:Hid (Below w.heap.size w (w.alloc (.cells #[] 55))):=(Below.refl _ _).alloc (Nat.le_refl _) _
  have HR:Hid (KRow RV.vals 7 (w.alloc (.cells #[] 55)) S (some ad) n l):=h.keep (KeepS.of_below HB.out)
  have hbz:w.heap.size≤(w.alloc (.cells #[] 55)).heap.size:=HB.out.size
  obtain ⟨v',w',hrun,hown,hgr⟩:=KR.run_append_k (vals:=RV.vals) (k:=7) (bytes:=104) (T:=53) (E:=55) Tryz.underlying53 infoRange rfl (fun _=>rfl) (by omega) oneRange _ 53 w.heap.size _ 0 [] H0.out (some ad) n c l HR.out (fun e=>by cases e) (by omega) (by omega) hbz
  have HO:=Lib.hid hown
  have HG:=Lib.hid hgr
  clear hown hgr h
  go_enter Tryz.func142,Tryz.ntmps142
  go_wp2_with (first
   | (at_builtin; refine wpList_ran rfl rfl rfl rfl hrun ?_)
   | go_in)
  clear hrun hbz
  go_wp2
  go_ret
  exact ⟨_,rfl,by simpa using HO.out,HB.out.trans (by
   have:=HG.out
   exact (Below.refl _ _).grown this HB.out.size (fun g e=>by injection e with e; rw [← e]; exact Nat.le_refl _))⟩
end Go.Proofs.YtnpjklaaokiikaaGreatDoor.Copy
