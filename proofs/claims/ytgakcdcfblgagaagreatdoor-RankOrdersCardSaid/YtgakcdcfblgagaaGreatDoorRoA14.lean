/-
  What the theorem of the last text needs of these: SpHas, RgLt, SpSweepJ, RgGood. Conditions: as each theorem states.
-/
import Derived.Test.YtgakcdcfblgagaaGreatDoorRoA1
import Derived.Test.YtgakcdcfblgagaaGreatDoorRoA2
import Derived.Test.YtgakcdcfblgagaaGreatDoorRoA7
import Derived.Test.YtgakcdcfblgagaaGreatDoorRoA8
import Derived.Test.YtgakcdcfblgagaaGreatDoorRoA9
import Derived.Test.YtgakcdcfblgagaaGreatDoorRoA11
import Derived.Test.YtgakcdcfblgagaaGreatDoorRoA12
import Derived.Test.YtgakcdcfblgagaaGreatDoorRoA13
import Derived.Test.YtgakcdcfblgagaaGreatDoorShelfHas
import Derived.RegionTactic
import Derived.ChangeAlike
import Derived.WalkSmall
import Derived.Laws.OwnMore
import Derived.StillTailTactics
import Derived.Deep.RegionHeld3
import Derived.Deep.CutBlock
import Derived.Deep.DeepCutAuto
set_option maxRecDepth 100000
set_option maxHeartbeats 25600000
namespace Go.Proofs.YtgakcdcfblgagaaGreatDoor.Span
open Go.RowKit Num Ident Semver Prec

def hasOne (a b:Cut) (s:Sp):Bool:=decide (cmpC s.lo a≤0) && decide (0≤cmpC s.hi b)

theorem has1_any (s:RSp) (ra rb:RCut) (p1 p2:Nat) (w:World) (h:LiesS w s) (k1:At6B w p1 ra.kind ra.v.a ra.v.b ra.v.c (.slice ra.A ra.v.pre.length ra.c) (.slice ra.B ra.v.build.length ra.d)) (k2:At6B w p2 rb.kind rb.v.a rb.v.b rb.v.c (.slice rb.A rb.v.pre.length rb.c) (.slice rb.B rb.v.build.length rb.d)) (h1:Lies w ra) (h2:Lies w rb) :
  Calls Tryz.prog 122 #[.agg #[s.lo.kind,s.lo.v.a,s.lo.v.b,s.lo.v.c,.slice s.lo.A s.lo.v.pre.length s.lo.c,.slice s.lo.B s.lo.v.build.length s.lo.d,s.hi.kind,s.hi.v.a,s.hi.v.b,s.hi.v.c,.slice s.hi.A s.hi.v.pre.length s.hi.c,.slice s.hi.B s.hi.v.build.length s.hi.d],.pointer (some ⟨p1,0,none⟩),.pointer (some ⟨p2,0,none⟩)] w fun e w'=>e=.returned (.bool (hasOne ra.cut rb.cut s.sp))∧Below w.heap.size w w':=by
 have HBa:Hid (Below w.heap.size w (w.alloc (s.lo,s.hi))):=(Below.refl _ _).alloc (Nat.le_refl _) _
 have HL:=Lib.hid (h.kept HBa.out)
 have HA:=Lib.hid (h1.kept HBa.out)
 have HB:=Lib.hid (h2.kept HBa.out)
 have K0:Hid (At12B (w.alloc (s.lo,s.hi)) w.heap.size s.lo.kind s.lo.v.a s.lo.v.b s.lo.v.c (.slice s.lo.A s.lo.v.pre.length s.lo.c) (.slice s.lo.B s.lo.v.build.length s.lo.d) s.hi.kind s.hi.v.a s.hi.v.b s.hi.v.c (.slice s.hi.A s.hi.v.pre.length s.hi.c) (.slice s.hi.B s.hi.v.build.length s.hi.d)):=At12B.new w _ _ _ _ _ _ _ _ _ _ _ _ _
 have Y0:=Lib.hid (k1.kept HBa.out k1.1)
 have Z0:=Lib.hid (k2.kept HBa.out k2.1)
 clear h h1 h2 k1 k2
 have HF:Hid (hasOne ra.cut rb.cut s.sp=(decide (cmpC s.lo.cut ra.cut≤0) && decide (0≤cmpC s.hi.cut rb.cut))):=rfl
 go_enter Tryz.func122,Tryz.ntmps122
 go_upto_region 1 with (fail)
 generalize (w.alloc (s.lo,s.hi))=W at HBa HL HA HB K0 Y0 Z0 ⊢
 obtain ⟨hz,_,x0,x1,x2,x3,x4,x5,x6,x7,x8,x9,x10,x11⟩:=K0.out
 obtain ⟨hy,_,y0,y1,y2,y3,y4,y5⟩:=Y0.out
 go_wp2_with fail
 refine (compareC_any s.lo ra _ HL.out.lo HA.out).mono ?_
 rintro e w1 ⟨rfl,hb1⟩
 have K1:=Lib.hid (K0.out.kept hb1 hz)
 have Z1:=Lib.hid (Z0.out.kept hb1 Z0.out.1)
 have L1:=Lib.hid (HL.out.kept hb1)
 have M1:=Lib.hid (HB.out.kept hb1)
 have B1:=Lib.hid (HBa.out.trans (hb1.mono HBa.out.size))
 clear hb1 hz hy x0 x1 x2 x3 x4 x5 x6 x7 x8 x9 x10 x11 y0 y1 y2 y3 y4 y5
 obtain ⟨hz1,_,x0,x1,x2,x3,x4,x5,x6,x7,x8,x9,x10,x11⟩:=K1.out
 obtain ⟨_,_,z0,z1,z2,z3,z4,z5⟩:=Z1.out
 generalize cmpC s.lo.cut ra.cut=c1 at HF ⊢
 by_cases hc:c1≤0
 ·have hd:decide (c1≤0)=true:=decide_eq_true hc
  go_wp2_with fail
  refine (compareC_any s.hi rb _ L1.out.hi M1.out).mono ?_
  rintro e w2 ⟨rfl,hb2⟩
  have B2:=Lib.hid (B1.out.trans (hb2.mono B1.out.size))
  clear hb2 x0 x1 x2 x3 x4 x5 x6 x7 x8 x9 x10 x11 z0 z1 z2 z3 z4 z5
  generalize cmpC s.hi.cut rb.cut=c2 at HF ⊢
  by_cases hc2:0≤c2
  ·have HF2:Hid (hasOne ra.cut rb.cut s.sp=true):=by have:=HF.out; unfold Hid; rw [this]; simp [hc,hc2]
   clear HF
   go_wp2
   go_ret
   exact ⟨by rw [HF2.out]; rfl,B2.out⟩
  ·have HF2:Hid (hasOne ra.cut rb.cut s.sp=false):=by have:=HF.out; unfold Hid; rw [this]; simp [hc]; omega
   have hd2:decide (0≤c2)=false:=decide_eq_false hc2
   clear HF
   go_wp2
   go_ret
   exact ⟨by rw [HF2.out]; rfl,B2.out⟩
 ·have HF2:Hid (hasOne ra.cut rb.cut s.sp=false):=by have:=HF.out; unfold Hid; rw [this,decide_eq_false hc]; rfl
  have hd:decide (c1≤0)=false:=decide_eq_false hc
  clear HF
  go_wp2
  go_ret
  exact ⟨by rw [HF2.out]; rfl,B1.out⟩

structure LaidS (w:World) where
 s:RSp
 h:LiesS w s
instance (w:World):Inhabited (LaidS w):=⟨⟨⟨rlow,rlow⟩,⟨Lies.low w,Lies.low w⟩⟩⟩
theorem index_none (P:Option Addr) (c:Nat) (f:Value) (w:World):Calls Tryz.prog 182 #[.slice P 0 c,f] w fun e w'=>e=.returned (.int .i64 (-1))∧w=w':=by
 go_enter Tryz.func182,Tryz.ntmps182
 go_wp2
 go_loop [5,8] (fun _ i=>i=.int .i64 0) (fun _ _=>0)
 case atStart=>rfl
 case round =>
  subst hrel
  go_wp2
  go_ret
  exact ⟨rfl,rfl⟩
theorem contains_none (P:Option Addr) (c:Nat) (f:Value) (w:World):Calls Tryz.prog 121 #[.slice P 0 c,f] w fun e w'=>e=.returned (.bool false)∧w=w':=by
 go_enter Tryz.func121,Tryz.ntmps121
 go_wp2_with fail
 refine (index_none _ _ _ _).mono ?_
 rintro e w' ⟨rfl,rfl⟩
 go_wp2
 go_ret
 exact ⟨rfl,rfl⟩
theorem contains_any (P:Option Addr) (n c:Nat) (l:List RSp) (p1 p2:Nat) (ra rb:RCut) (w:World) (hr:SpRow w P n l) (hn:n≤100000) (k1:At6B w p1 ra.kind ra.v.a ra.v.b ra.v.c (.slice ra.A ra.v.pre.length ra.c) (.slice ra.B ra.v.build.length ra.d)) (k2:At6B w p2 rb.kind rb.v.a rb.v.b rb.v.c (.slice rb.A rb.v.pre.length rb.c) (.slice rb.B rb.v.build.length rb.d)) (h1:Lies w ra) (h2:Lies w rb) :
  Calls Tryz.prog 121 #[.slice P n c,.func (.func 122) #[] #[.pointer (some ⟨p1,0,none⟩),.pointer (some ⟨p2,0,none⟩)]] w fun e w'=>e=.returned (.bool ((l.map RSp.sp).any (hasOne ra.cut rb.cut)))∧Below w.heap.size w w':=by
 obtain ⟨hl,hlie,hc⟩:=hr
 rcases Nat.eq_zero_or_pos n with h0 | h0
 ·subst h0
  obtain rfl:l=[]:=List.eq_nil_of_length_eq_zero hl
  exact (contains_none P c _ w).mono fun e w' ⟨he,hw⟩=>⟨he,by subst hw; exact Below.refl _ _⟩
 ·obtain ⟨b,o,rfl,hb,hcell⟩:=hc h0
  obtain ⟨zs,hz⟩:∃ zs:List (LaidS w),zs.map LaidS.s=l:=⟨l.pmap (fun s h=>(⟨s,h⟩:LaidS w)) hlie,by simp [List.map_pmap]⟩
  have hzl:zs.length=n:=by rw [← hl,← hz,List.length_map]
  have hp:PredBelow Tryz.prog 122 #[.pointer (some ⟨p1,0,none⟩),.pointer (some ⟨p2,0,none⟩)] (fun x:LaidS w=>.agg x.s.vals.toArray) (fun x=>hasOne ra.cut rb.cut x.s.sp) w:=by
   intro W x hB
   exact (has1_any x.s ra rb p1 p2 W (x.h.kept hB) (k1.kept hB k1.1) (k2.kept hB k2.1) (h1.kept hB) (h2.kept hB)).mono fun e w' ⟨he,hb'⟩=>⟨he,hB.trans (hb'.mono hB.size)⟩
  have hcon:=AnyQ.slices_ContainsFunc Tryz.hasL 12 Tryz.isAgg196 Tryz.sizeOf196 (fun x:LaidS w=>x.s.vals) (fun _=>rfl) (fun x=>hasOne ra.cut rb.cut x.s.sp) 122 #[.pointer (some ⟨p1,0,none⟩),.pointer (some ⟨p2,0,none⟩)] (enters_of Tryz.func122 (by kernel_rfl) rfl) b o n c zs w hp (by rw [hzl]; exact Nat.le_refl _) (by omega) hb
   (fun j hj i v hv=>hcell j (by omega) i v (by
    have e:l.getD j default=zs[j]!.s:=by
     rw [getElem!_pos zs j hj,← hz]; simp [List.getD,hj]
    rw [e]; exact hv))
  refine hcon.mono fun e w' ⟨he,hb'⟩=>⟨?_,hb'⟩
  rw [he,List.take_of_length_le (by rw [hzl]; exact Nat.le_refl _),← hz,List.map_map,List.any_map]; rfl

theorem has_any (P:Option Addr) (n c:Nat) (l:List RSp) (v:Ver) (A:Option Addr) (cA:Nat) (B:Option Addr) (cB:Nat) (w:World) (hr:SpRow w P n l) (hn:n≤100000) (h1:SRow w A v.pre.length v.pre) (hf:Fit v.pre) :
  Calls Tryz.prog 68 #[.slice P n c,.agg #[v.a,v.b,v.c,.slice A v.pre.length cA,.slice B v.build.length cB]] w fun e w'=>e=.returned (.bool ((l.map RSp.sp).any (hasOne (aheadOf v) (behindOf v))))∧Below w.heap.size w w':=by
 have HR:=Lib.hid hr
 have HS:=Lib.hid h1
 have HF:=Lib.hid hf
 clear hr h1 hf
 generalize hg:(l.map RSp.sp).any (hasOne (aheadOf v) (behindOf v))=g
 have HG:=Lib.hid hg
 clear hg
 go_enter Tryz.func68,Tryz.ntmps68
 go_upto_region 2 with (fail)
 go_region
 ·have HB:Hid (Below w.heap.size w (((w.alloc (.cells #[v.a,v.b,v.c,.slice A v.pre.length cA,.slice none 0 0] 37)).alloc (.cells #[.int .i64 1,v.a,v.b,v.c,.slice A v.pre.length cA,.slice none 0 0] 193)).alloc (.cells #[.int .i64 2,v.a,v.b,v.c,.slice A v.pre.length cA,.slice none 0 0] 193)).drew):=(((((Below.refl _ _).alloc (Nat.le_refl _) _).alloc (by simp) _).alloc (by simp; omega) _)).drew
  have Q1:Hid (At6B (((w.alloc (.cells #[v.a,v.b,v.c,.slice A v.pre.length cA,.slice none 0 0] 37)).alloc (.cells #[.int .i64 1,v.a,v.b,v.c,.slice A v.pre.length cA,.slice none 0 0] 193)).alloc (.cells #[.int .i64 2,v.a,v.b,v.c,.slice A v.pre.length cA,.slice none 0 0] 193)).drew (w.heap.size+1) (.int .i64 1) v.a v.b v.c (.slice A v.pre.length cA) (.slice none 0 0)):=by
   have q:=(At6B.new (w.alloc (.cells #[v.a,v.b,v.c,.slice A v.pre.length cA,.slice none 0 0] 37)) 193 (.int .i64 1) v.a v.b v.c (.slice A v.pre.length cA) (.slice none 0 0)).kept ((Below.refl _ _).alloc (Nat.le_refl _) (.cells #[.int .i64 2,v.a,v.b,v.c,.slice A v.pre.length cA,.slice none 0 0] 193)) (by simp)
   rw [size_alloc] at q; exact q
  have Q2:Hid (At6B (((w.alloc (.cells #[v.a,v.b,v.c,.slice A v.pre.length cA,.slice none 0 0] 37)).alloc (.cells #[.int .i64 1,v.a,v.b,v.c,.slice A v.pre.length cA,.slice none 0 0] 193)).alloc (.cells #[.int .i64 2,v.a,v.b,v.c,.slice A v.pre.length cA,.slice none 0 0] 193)).drew (w.heap.size+1+1) (.int .i64 2) v.a v.b v.c (.slice A v.pre.length cA) (.slice none 0 0)):=by
   have q:=At6B.new ((w.alloc (.cells #[v.a,v.b,v.c,.slice A v.pre.length cA,.slice none 0 0] 37)).alloc (.cells #[.int .i64 1,v.a,v.b,v.c,.slice A v.pre.length cA,.slice none 0 0] 193)) 193 (.int .i64 2) v.a v.b v.c (.slice A v.pre.length cA) (.slice none 0 0)
   rw [size_alloc,size_alloc] at q; exact q
  generalize (((w.alloc (.cells #[v.a,v.b,v.c,.slice A v.pre.length cA,.slice none 0 0] 37)).alloc (.cells #[.int .i64 1,v.a,v.b,v.c,.slice A v.pre.length cA,.slice none 0 0] 193)).alloc (.cells #[.int .i64 2,v.a,v.b,v.c,.slice A v.pre.length cA,.slice none 0 0] 193)).drew=W at HB Q1 Q2 ⊢
  have HV:Hid (SRow W A v.pre.length v.pre):=HS.out.kept HB.out
  go_wp2_with fail
  refine (contains_any P n c l _ _ ⟨1,bare v,A,cA,none,0⟩ ⟨2,bare v,A,cA,none,0⟩ _ (HR.out.kept HB.out) hn Q1.out Q2.out ⟨HV.out,SRow.none_ _ _,HF.out,Fit.nil⟩ ⟨HV.out,SRow.none_ _ _,HF.out,Fit.nil⟩).mono ?_
  rintro e w1 ⟨he,hb1⟩
  have he2:e=.returned (.bool g):=by rw [← HG.out]; exact he
  subst he2
  clear he
  have B1:=Lib.hid (HB.out.trans (hb1.mono HB.out.size))
  clear hb1
  go_wp2
  go_ret
  exact ⟨rfl,B1.out⟩
 ·have HB:Hid (Below w.heap.size w (((w.alloc (.cells #[v.a,v.b,v.c,.slice A v.pre.length cA,.slice none 0 0] 37)).alloc (.cells #[.int .i64 2,v.a,v.b,v.c,.slice A v.pre.length cA,.slice none 0 0] 193)).alloc (.cells #[.int .i64 1,v.a,v.b,v.c,.slice A v.pre.length cA,.slice none 0 0] 193)).drew):=(((((Below.refl _ _).alloc (Nat.le_refl _) _).alloc (by simp) _).alloc (by simp; omega) _)).drew
  have Q1:Hid (At6B (((w.alloc (.cells #[v.a,v.b,v.c,.slice A v.pre.length cA,.slice none 0 0] 37)).alloc (.cells #[.int .i64 2,v.a,v.b,v.c,.slice A v.pre.length cA,.slice none 0 0] 193)).alloc (.cells #[.int .i64 1,v.a,v.b,v.c,.slice A v.pre.length cA,.slice none 0 0] 193)).drew (w.heap.size+1) (.int .i64 2) v.a v.b v.c (.slice A v.pre.length cA) (.slice none 0 0)):=by
   have q:=(At6B.new (w.alloc (.cells #[v.a,v.b,v.c,.slice A v.pre.length cA,.slice none 0 0] 37)) 193 (.int .i64 2) v.a v.b v.c (.slice A v.pre.length cA) (.slice none 0 0)).kept ((Below.refl _ _).alloc (Nat.le_refl _) (.cells #[.int .i64 1,v.a,v.b,v.c,.slice A v.pre.length cA,.slice none 0 0] 193)) (by simp)
   rw [size_alloc] at q; exact q
  have Q2:Hid (At6B (((w.alloc (.cells #[v.a,v.b,v.c,.slice A v.pre.length cA,.slice none 0 0] 37)).alloc (.cells #[.int .i64 2,v.a,v.b,v.c,.slice A v.pre.length cA,.slice none 0 0] 193)).alloc (.cells #[.int .i64 1,v.a,v.b,v.c,.slice A v.pre.length cA,.slice none 0 0] 193)).drew (w.heap.size+1+1) (.int .i64 1) v.a v.b v.c (.slice A v.pre.length cA) (.slice none 0 0)):=by
   have q:=At6B.new ((w.alloc (.cells #[v.a,v.b,v.c,.slice A v.pre.length cA,.slice none 0 0] 37)).alloc (.cells #[.int .i64 2,v.a,v.b,v.c,.slice A v.pre.length cA,.slice none 0 0] 193)) 193 (.int .i64 1) v.a v.b v.c (.slice A v.pre.length cA) (.slice none 0 0)
   rw [size_alloc,size_alloc] at q; exact q
  generalize (((w.alloc (.cells #[v.a,v.b,v.c,.slice A v.pre.length cA,.slice none 0 0] 37)).alloc (.cells #[.int .i64 2,v.a,v.b,v.c,.slice A v.pre.length cA,.slice none 0 0] 193)).alloc (.cells #[.int .i64 1,v.a,v.b,v.c,.slice A v.pre.length cA,.slice none 0 0] 193)).drew=W at HB Q1 Q2 ⊢
  have HV:Hid (SRow W A v.pre.length v.pre):=HS.out.kept HB.out
  go_wp2_with fail
  refine (contains_any P n c l _ _ ⟨1,bare v,A,cA,none,0⟩ ⟨2,bare v,A,cA,none,0⟩ _ (HR.out.kept HB.out) hn Q2.out Q1.out ⟨HV.out,SRow.none_ _ _,HF.out,Fit.nil⟩ ⟨HV.out,SRow.none_ _ _,HF.out,Fit.nil⟩).mono ?_
  rintro e w1 ⟨he,hb1⟩
  have he2:e=.returned (.bool g):=by rw [← HG.out]; exact he
  subst he2
  clear he
  have B1:=Lib.hid (HB.out.trans (hb1.mono HB.out.size))
  clear hb1
  go_wp2
  go_ret
  exact ⟨rfl,B1.out⟩

end Go.Proofs.YtgakcdcfblgagaaGreatDoor.Span
namespace Go.Proofs.YtgakcdcfblgagaaGreatDoor.Range
open Go.RowKit Num Ident Semver
def LtB (B g:Nat):Prop:=g<B
theorem RgRow.one {w:World} {S:Nat→Prop} {L:Option Addr} {n:Nat} {l:List Rng} (h:RgRow w S L n l) {j:Nat} (hj:j<n):∃ b o x,L=some ⟨b,o,none⟩∧S b∧CellsAt w b (o+j * 7) x∧Lies w S (l.getD j noRng) x:=by
 obtain ⟨f,_,h2,h3⟩:=h
 obtain ⟨b,o,e,hb,hc⟩:=h2 (by omega)
 exact ⟨b,o,f j,e,hb,hc j hj,h3 j hj⟩
theorem arr_lit (t:Array Value) (n:Nat) (h:t.size=n):t=((List.range n).map fun i=>t.getD i undef).toArray:=by
 apply Array.ext
 ·simp [h]
 ·intro i h1 h2
  simp [Array.getD,h1]
end Go.Proofs.YtgakcdcfblgagaaGreatDoor.Range
namespace Go.Proofs.YtgakcdcfblgagaaGreatDoor.Span
open Go.RowKit Num Ident Semver Prec

structure SwFix (w1:World) (re0:List REdge) (A:Option Addr) (n mb:Nat) (m:Int) (ws:World) (re:List REdge):Prop where
 perm:re.Perm re0
 sorted:re.Pairwise fun x y=>stand x.cut.cut y.cut.cut≤0
 len:re.length=n
 small:n≤100000
 lies:∀ e ∈ re,Lies w1 e.cut
 right:∀ e ∈ re,right e.cut.cut=true
 step:∀ e ∈ re,-10≤e.step∧e.step≤10
 cells:0<n→∃ g,A=some ⟨g,0,none⟩∧g<ws.heap.size∧∀ j,j<n→∀ i u,(re.getD j default).vals[i]?=some u→ws.cell? ⟨g,0+j * 7+i,none⟩=some u
 mbl:mb<ws.heap.size
 mbc:ws.cell? ⟨mb,0,none⟩=some (.int .i64 m)
 old:Below w1.heap.size w1 ws
structure SwAt (w1 ws:World) (n i:Nat) (T:Int) (set:Value) (out:List RSp) (lo:RCut) (W:World):Prop where
 bel:Below ws.heap.size ws W
 lob:At6B W ws.heap.size lo.kind lo.v.a lo.v.b lo.v.c (.slice lo.A lo.v.pre.length lo.c) (.slice lo.B lo.v.build.length lo.d)
 own:W.ownsRow (ws.heap.size+1) 196 12 set out.length (out.flatMap RSp.vals)
 cuts:∀ s ∈ out,OwnC W (ws.heap.size+1) s.lo∧OwnC W (ws.heap.size+1) s.hi
 lies:Lies w1 lo
 bare:bare lo.v=lo.v
 few:lo.v.pre.length≤16
 len:out.length≤i
 lo10:-(10 * (i:Int))≤T
 hi10:T≤10 * (i:Int)
 ile:i≤n
theorem own_set6 {w:World} {B:Nat} {e:TypeId} {size:Nat} {v:Value} {n:Nat} {xs:List Value} (h:w.ownsRow B e size v n xs) {b:Nat} (hb:b<B) (v0 v1 v2 v3 v4 v5:Value):(Span.set6 w b v0 v1 v2 v3 v4 v5).ownsRow B e size v n xs :=
 ownsRow_setCell_below (ownsRow_setCell_below (ownsRow_setCell_below (ownsRow_setCell_below (ownsRow_setCell_below (ownsRow_setCell_below h (a:=⟨b,0,none⟩) hb v0) (a:=⟨b,1,none⟩) hb v1) (a:=⟨b,2,none⟩) hb v2) (a:=⟨b,3,none⟩) hb v3) (a:=⟨b,4,none⟩) hb v4) (a:=⟨b,5,none⟩) hb v5
theorem SwAt.kept {w1 ws:World} {n i:Nat} {T:Int} {set:Value} {out:List RSp} {lo:RCut} {W W':World} (h:SwAt w1 ws n i T set out lo W) (hb:Below W.heap.size W W'):SwAt w1 ws n i T set out lo W' :=
 {h with bel:=h.bel.trans (hb.mono h.bel.size),lob:=h.lob.kept hb h.lob.1,own:=own_below h.own hb,cuts:=fun s hs=>⟨(h.cuts s hs).1.kept hb,(h.cuts s hs).2.kept hb⟩ }
theorem At6B.drew {W:World} {b:Nat} {u0 u1 u2 u3 u4 u5:Value} (h:At6B W b u0 u1 u2 u3 u4 u5):At6B W.drew b u0 u1 u2 u3 u4 u5:=h
theorem region_append_sp {yl:Nat→Option Bool} {o:Oper} {a:Act} {w w':World} {K:Act→World→Prop} {Q:Exit→Act→World→Prop} {v v':Value} {y:Value} (hw:Region.wanted o yl=true) (s x:Operand)
  (ho:o.op=.call { callee:=.builtin .append,args:=#[s,x],argTypes:=#[123,123] }) (hs:a.eval s=v) (hx:a.eval x=y)
  (hrun:(Builtin.append_ #[123,123] o.type #[v,y]).run Tryz.prog w=.ok v' w') (h:K (a.put o.dst v') w'):if Region.wanted o yl=true then Oper.wp Tryz.prog o a w K Q else K (a.put o.dst undef) w:=by
 rw [if_pos hw]
 unfold Oper.wp execOp
 simp only [ho,resolve,invoke,builtin,Sem.run_bind,Sem.run_pure,Result.andThen_ok,List.map_toArray,List.map_cons,List.map_nil,hs,hx,hrun]
 exact h
theorem SwAt.setlo {w1 ws:World} {n i:Nat} {T:Int} {set:Value} {out:List RSp} {lo:RCut} {W:World} (h:SwAt w1 ws n i T set out lo W) (cu:RCut) (hl:Lies w1 cu) (hr:Span.right cu.cut=true):SwAt w1 ws n i T set out cu (Span.set6 W ws.heap.size cu.kind cu.v.a cu.v.b cu.v.c (.slice cu.A cu.v.pre.length cu.c) (.slice cu.B cu.v.build.length cu.d)) :=
 {h with bel:=below_set6 h.bel (Nat.le_refl _) _ _ _ _ _ _,lob:=h.lob.set6 _ _ _ _ _ _,own:=own_set6 h.own (Nat.lt_succ_self _) _ _ _ _ _ _,cuts:=fun s hs=>⟨(h.cuts s hs).1.set6 (Nat.lt_succ_self _) _ _ _ _ _ _,(h.cuts s hs).2.set6 (Nat.lt_succ_self _) _ _ _ _ _ _⟩,lies:=hl,bare:=right_bare hr,few:=(right_few hr).1 }
theorem SwAt.step {w1 ws:World} {n i:Nat} {T:Int} {set:Value} {out:List RSp} {lo:RCut} {W:World} (h:SwAt w1 ws n i T set out lo W) {d:Int} (h1:-10≤d) (h2:d≤10) (hi:i<n):SwAt w1 ws n (i+1) (T+d) set out lo W :=
 {h with len:=Nat.le_succ_of_le h.len,lo10:=by have:=h.lo10; omega,hi10:=by have:=h.hi10; omega,ile:=hi }
def Tag (W:World) (b:Nat):Prop:=∃ C,W.heap[b]?=some (.cells C 193 (0,0))
theorem Tag.kept {W W':World} {b B:Nat} (h:Tag W b) (hb:Below B W W') (hB:b<B):Tag W' b:=by
 obtain ⟨C,hC⟩:=h
 exact ⟨C,(hb.block b hB).trans hC⟩
theorem Tag.new (W:World) (C:Array Value):Tag (W.alloc (.cells C 193)) W.heap.size:=⟨C,by show (W.heap.push _)[W.heap.size]?=_; simp⟩
theorem Tag.apart {W:World} {b B:Nat} {set:Value} {n:Nat} {xs:List Value} (h:Tag W b) (ho:W.ownsRow B 196 12 set n xs):some b≠set.ownBlock:=by
 obtain ⟨C,hC⟩:=h
 rcases ho.2 with ⟨rfl,_⟩ | ⟨g,cap,cur,rfl,_,hg,_⟩
 ·intro h; cases h
 ·intro h
  have e:b=g:=by simpa [Value.ownBlock] using h
  subst e
  rw [hC] at hg
  injection hg with hg
  injection hg with _ h
  exact absurd h (by decide)
theorem At6B.grown {w w':World} {row:Option Nat} {b:Nat} {u0 u1 u2 u3 u4 u5:Value} (h:At6B w b u0 u1 u2 u3 u4 u5) (hg:w.grownBy w' row) (hne:some b≠row):At6B w' b u0 u1 u2 u3 u4 u5:=by
 obtain ⟨h1,h2,c0,c1,c2,c3,c4,c5⟩:=h
 have k:w'.heap[b]?=w.heap[b]?:=hg.block b h1 hne
 exact ⟨Nat.lt_of_lt_of_le h1 hg.size,fun o=>(World.frozen?_of_block (w:=w) (a:=⟨b,o,none⟩) k).trans (h2 o),(World.cell?_of_block (w:=w) (a:=⟨b,0,none⟩) k).trans c0,(World.cell?_of_block (w:=w) (a:=⟨b,1,none⟩) k).trans c1,(World.cell?_of_block (w:=w) (a:=⟨b,2,none⟩) k).trans c2,(World.cell?_of_block (w:=w) (a:=⟨b,3,none⟩) k).trans c3,(World.cell?_of_block (w:=w) (a:=⟨b,4,none⟩) k).trans c4,(World.cell?_of_block (w:=w) (a:=⟨b,5,none⟩) k).trans c5⟩
theorem SwAt.more {w1 ws:World} {n i:Nat} {T:Int} {set:Value} {out:List RSp} {lo:RCut} {W w7 w8:World} {v8:Value} {s:RSp} (h:SwAt w1 ws n i T set out lo W) (hb:Below W.heap.size W w7) (hl:OwnC w7 (ws.heap.size+1) s.lo) (hh:OwnC w7 (ws.heap.size+1) s.hi) (hg:w7.grownBy w8 set.ownBlock)
  (ho:w8.ownsRow (ws.heap.size+1) 196 12 v8 (out.length+1) ((out ++ [s]).flatMap RSp.vals)) (hi:out.length+1≤i):SwAt w1 ws n i T v8 (out ++ [s]) lo w8 :=
 have o7:=own_below h.own hb
 have b8:Below (ws.heap.size+1) W w8:=(hb.mono h.lob.1).grown hg (Nat.le_trans h.lob.1 hb.size) (fun k hk=>(h.own.lt k hk).1)
 {bel:=h.bel.trans (b8.mono (Nat.le_succ _)),lob:=h.lob.kept b8 (Nat.lt_succ_self _),own:=by rw [List.length_append]; exact ho,
  cuts:=fun x hx=>by
   rcases List.mem_append.1 hx with hx | hx
   ·exact ⟨((h.cuts x hx).1.kept hb).grown o7 hg,((h.cuts x hx).2.kept hb).grown o7 hg⟩
   ·rw [List.mem_singleton] at hx; subst hx; exact ⟨hl.grown o7 hg,hh.grown o7 hg⟩,
  lies:=h.lies,bare:=h.bare,few:=h.few,len:=by rw [List.length_append]; exact hi,lo10:=h.lo10,hi10:=h.hi10,ile:=h.ile }
def SwJ0 (w1:World) (re0:List REdge) (A:Option Addr) (n c mb:Nat) (m:Int) (a':Act) (W:World):Prop :=
 ∃ (ws:World) (re:List REdge) (i:Nat) (T:Int) (set:Value) (out:List RSp) (lo:RCut) (u9 u10 u11 u14 u15 u16 u17 u18 u19 u20 u21 u22 u23 u24 u25 u26 u27 u28 u29 u30 u31 u32 u33 u34 u35 u36 u37 u38 u39 u40 u41 u42 u43 u44 u45 u46 u47 u48 u49 u50 u51 u52 u53 u54 u55 u56 u57 u58 u59 u60 u61 u62 u63 u64 u65 u66 u67 u68 u69 u70 u71 u72 u73:Value),SwFix w1 re0 A n mb m ws re∧SwAt w1 ws n i T set out lo W ∧
  sweepL m (re.map REdge.edge)=out.map RSp.sp ++ nextL m T lo.cut ((re.drop i).map REdge.edge)∧a'={ tmps:=#[.slice A n c,.func (.func 250) #[] #[.pointer (some ⟨mb,0,none⟩)],undef,undef,.slice none 0 0,set,.pointer (some ⟨ws.heap.size,0,none⟩),.int .i64 i,.int .i64 T,u9,u10,u11,.slice A n c,.tuple #[],u14,u15,u16,u17,u18,u19,u20,u21,u22,u23,u24,u25,u26,u27,u28,u29,u30,u31,u32,u33,u34,u35,u36,u37,u38,u39,u40,u41,u42,u43,u44,u45,u46,u47,u48,u49,u50,u51,u52,u53,u54,u55,u56,u57,u58,u59,u60,u61,u62,u63,u64,u65,u66,u67,u68,u69,u70,u71,u72,u73],defers:=[] }
def SwJ1 (w1:World) (re0:List REdge) (A:Option Addr) (n c mb:Nat) (m:Int) (a':Act) (W:World):Prop :=
 ∃ (ws:World) (re:List REdge) (i:Nat) (T:Int) (set:Value) (out:List RSp) (lo:RCut) (bc:Nat) (cu:RCut) (was:Bool) (u11 u14 u15 u16 u17 u18 u19 u20 u21 u22 u23 u24 u25 u26 u27 u28 u29 u30 u31 u32 u33 u34 u35 u36 u37 u38 u39 u40 u41 u42 u43 u44 u45 u46 u47 u48 u49 u50 u51 u52 u53 u54 u55 u56 u57 u58 u59 u60 u61 u62 u63 u64 u65 u66 u67 u68 u69 u70 u71 u72 u73:Value),SwFix w1 re0 A n mb m ws re∧SwAt w1 ws n i T set out lo W∧i<n ∧
  At6B W bc cu.kind cu.v.a cu.v.b cu.v.c (.slice cu.A cu.v.pre.length cu.c) (.slice cu.B cu.v.build.length cu.d)∧Tag W bc∧Lies w1 cu∧right cu.cut=true∧sweepL m (re.map REdge.edge)=out.map RSp.sp ++ go m cu.cut was T lo.cut ((re.drop i).map REdge.edge)∧a'={ tmps:=#[.slice A n c,.func (.func 250) #[] #[.pointer (some ⟨mb,0,none⟩)],undef,undef,.slice none 0 0,set,.pointer (some ⟨ws.heap.size,0,none⟩),.int .i64 i,.int .i64 T,.pointer (some ⟨bc,0,none⟩),.bool was,u11,.slice A n c,.tuple #[],u14,u15,u16,u17,u18,u19,u20,u21,u22,u23,u24,u25,u26,u27,u28,u29,u30,u31,u32,u33,u34,u35,u36,u37,u38,u39,u40,u41,u42,u43,u44,u45,u46,u47,u48,u49,u50,u51,u52,u53,u54,u55,u56,u57,u58,u59,u60,u61,u62,u63,u64,u65,u66,u67,u68,u69,u70,u71,u72,u73],defers:=[] }
theorem SwJ0.mk {w1:World} {re0:List REdge} {A:Option Addr} {n c mb:Nat} {m:Int} {a':Act} {W:World} (ws:World) (re:List REdge) (i:Nat) (T:Int) (set:Value) (out:List RSp) (lo:RCut) {u9 u10 u11 u14 u15 u16 u17 u18 u19 u20 u21 u22 u23 u24 u25 u26 u27 u28 u29 u30 u31 u32 u33 u34 u35 u36 u37 u38 u39 u40 u41 u42 u43 u44 u45 u46 u47 u48 u49 u50 u51 u52 u53 u54 u55 u56 u57 u58 u59 u60 u61 u62 u63 u64 u65 u66 u67 u68 u69 u70 u71 u72 u73:Value} (h1:SwFix w1 re0 A n mb m ws re) (h2:SwAt w1 ws n i T set out lo W)
  (h3:sweepL m (re.map REdge.edge)=out.map RSp.sp ++ nextL m T lo.cut ((re.drop i).map REdge.edge)) (h4:a'={ tmps:=#[.slice A n c,.func (.func 250) #[] #[.pointer (some ⟨mb,0,none⟩)],undef,undef,.slice none 0 0,set,.pointer (some ⟨ws.heap.size,0,none⟩),.int .i64 i,.int .i64 T,u9,u10,u11,.slice A n c,.tuple #[],u14,u15,u16,u17,u18,u19,u20,u21,u22,u23,u24,u25,u26,u27,u28,u29,u30,u31,u32,u33,u34,u35,u36,u37,u38,u39,u40,u41,u42,u43,u44,u45,u46,u47,u48,u49,u50,u51,u52,u53,u54,u55,u56,u57,u58,u59,u60,u61,u62,u63,u64,u65,u66,u67,u68,u69,u70,u71,u72,u73],defers:=[] }):SwJ0 w1 re0 A n c mb m a' W :=
 ⟨ws,re,i,T,set,out,lo,u9,u10,u11,u14,u15,u16,u17,u18,u19,u20,u21,u22,u23,u24,u25,u26,u27,u28,u29,u30,u31,u32,u33,u34,u35,u36,u37,u38,u39,u40,u41,u42,u43,u44,u45,u46,u47,u48,u49,u50,u51,u52,u53,u54,u55,u56,u57,u58,u59,u60,u61,u62,u63,u64,u65,u66,u67,u68,u69,u70,u71,u72,u73,h1,h2,h3,h4⟩
theorem SwJ0.out {w1:World} {re0:List REdge} {A:Option Addr} {n c mb:Nat} {m:Int} {C:Act→World→Prop} (h:∀ (W:World) (ws:World) (re:List REdge) (i:Nat) (T:Int) (set:Value) (out:List RSp) (lo:RCut) (u9 u10 u11 u14 u15 u16 u17 u18 u19 u20 u21 u22 u23 u24 u25 u26 u27 u28 u29 u30 u31 u32 u33 u34 u35 u36 u37 u38 u39 u40 u41 u42 u43 u44 u45 u46 u47 u48 u49 u50 u51 u52 u53 u54 u55 u56 u57 u58 u59 u60 u61 u62 u63 u64 u65 u66 u67 u68 u69 u70 u71 u72 u73:Value),SwFix w1 re0 A n mb m ws re→SwAt w1 ws n i T set out lo W →
  sweepL m (re.map REdge.edge)=out.map RSp.sp ++ nextL m T lo.cut ((re.drop i).map REdge.edge)→C { tmps:=#[.slice A n c,.func (.func 250) #[] #[.pointer (some ⟨mb,0,none⟩)],undef,undef,.slice none 0 0,set,.pointer (some ⟨ws.heap.size,0,none⟩),.int .i64 i,.int .i64 T,u9,u10,u11,.slice A n c,.tuple #[],u14,u15,u16,u17,u18,u19,u20,u21,u22,u23,u24,u25,u26,u27,u28,u29,u30,u31,u32,u33,u34,u35,u36,u37,u38,u39,u40,u41,u42,u43,u44,u45,u46,u47,u48,u49,u50,u51,u52,u53,u54,u55,u56,u57,u58,u59,u60,u61,u62,u63,u64,u65,u66,u67,u68,u69,u70,u71,u72,u73],defers:=[] } W):∀ a' W,SwJ0 w1 re0 A n c mb m a' W→C a' W:=by
 rintro a' W ⟨ws,re,i,T,set,out,lo,u9,u10,u11,u14,u15,u16,u17,u18,u19,u20,u21,u22,u23,u24,u25,u26,u27,u28,u29,u30,u31,u32,u33,u34,u35,u36,u37,u38,u39,u40,u41,u42,u43,u44,u45,u46,u47,u48,u49,u50,u51,u52,u53,u54,u55,u56,u57,u58,u59,u60,u61,u62,u63,u64,u65,u66,u67,u68,u69,u70,u71,u72,u73,h1,h2,h3,rfl⟩
 exact h W ws re i T set out lo u9 u10 u11 u14 u15 u16 u17 u18 u19 u20 u21 u22 u23 u24 u25 u26 u27 u28 u29 u30 u31 u32 u33 u34 u35 u36 u37 u38 u39 u40 u41 u42 u43 u44 u45 u46 u47 u48 u49 u50 u51 u52 u53 u54 u55 u56 u57 u58 u59 u60 u61 u62 u63 u64 u65 u66 u67 u68 u69 u70 u71 u72 u73 h1 h2 h3
theorem SwJ1.mk {w1:World} {re0:List REdge} {A:Option Addr} {n c mb:Nat} {m:Int} {a':Act} {W:World} (ws:World) (re:List REdge) (i:Nat) (T:Int) (set:Value) (out:List RSp) (lo:RCut) (bc:Nat) (cu:RCut) (was:Bool) {u11 u14 u15 u16 u17 u18 u19 u20 u21 u22 u23 u24 u25 u26 u27 u28 u29 u30 u31 u32 u33 u34 u35 u36 u37 u38 u39 u40 u41 u42 u43 u44 u45 u46 u47 u48 u49 u50 u51 u52 u53 u54 u55 u56 u57 u58 u59 u60 u61 u62 u63 u64 u65 u66 u67 u68 u69 u70 u71 u72 u73:Value} (h1:SwFix w1 re0 A n mb m ws re) (h2:SwAt w1 ws n i T set out lo W) (h5:i<n)
  (h6:At6B W bc cu.kind cu.v.a cu.v.b cu.v.c (.slice cu.A cu.v.pre.length cu.c) (.slice cu.B cu.v.build.length cu.d)) (h9:Tag W bc) (h7:Lies w1 cu) (h8:right cu.cut=true) (h3:sweepL m (re.map REdge.edge)=out.map RSp.sp ++ go m cu.cut was T lo.cut ((re.drop i).map REdge.edge)) (h4:a'={ tmps:=#[.slice A n c,.func (.func 250) #[] #[.pointer (some ⟨mb,0,none⟩)],undef,undef,.slice none 0 0,set,.pointer (some ⟨ws.heap.size,0,none⟩),.int .i64 i,.int .i64 T,.pointer (some ⟨bc,0,none⟩),.bool was,u11,.slice A n c,.tuple #[],u14,u15,u16,u17,u18,u19,u20,u21,u22,u23,u24,u25,u26,u27,u28,u29,u30,u31,u32,u33,u34,u35,u36,u37,u38,u39,u40,u41,u42,u43,u44,u45,u46,u47,u48,u49,u50,u51,u52,u53,u54,u55,u56,u57,u58,u59,u60,u61,u62,u63,u64,u65,u66,u67,u68,u69,u70,u71,u72,u73],defers:=[] }):SwJ1 w1 re0 A n c mb m a' W :=
 ⟨ws,re,i,T,set,out,lo,bc,cu,was,u11,u14,u15,u16,u17,u18,u19,u20,u21,u22,u23,u24,u25,u26,u27,u28,u29,u30,u31,u32,u33,u34,u35,u36,u37,u38,u39,u40,u41,u42,u43,u44,u45,u46,u47,u48,u49,u50,u51,u52,u53,u54,u55,u56,u57,u58,u59,u60,u61,u62,u63,u64,u65,u66,u67,u68,u69,u70,u71,u72,u73,h1,h2,h5,h6,h9,h7,h8,h3,h4⟩
theorem SwJ1.out {w1:World} {re0:List REdge} {A:Option Addr} {n c mb:Nat} {m:Int} {C:Act→World→Prop} (h:∀ (W:World) (ws:World) (re:List REdge) (i:Nat) (T:Int) (set:Value) (out:List RSp) (lo:RCut) (bc:Nat) (cu:RCut) (was:Bool) (u11 u14 u15 u16 u17 u18 u19 u20 u21 u22 u23 u24 u25 u26 u27 u28 u29 u30 u31 u32 u33 u34 u35 u36 u37 u38 u39 u40 u41 u42 u43 u44 u45 u46 u47 u48 u49 u50 u51 u52 u53 u54 u55 u56 u57 u58 u59 u60 u61 u62 u63 u64 u65 u66 u67 u68 u69 u70 u71 u72 u73:Value),SwFix w1 re0 A n mb m ws re→SwAt w1 ws n i T set out lo W→i<n →
  At6B W bc cu.kind cu.v.a cu.v.b cu.v.c (.slice cu.A cu.v.pre.length cu.c) (.slice cu.B cu.v.build.length cu.d)→Tag W bc→Lies w1 cu→right cu.cut=true→sweepL m (re.map REdge.edge)=out.map RSp.sp ++ go m cu.cut was T lo.cut ((re.drop i).map REdge.edge)→C { tmps:=#[.slice A n c,.func (.func 250) #[] #[.pointer (some ⟨mb,0,none⟩)],undef,undef,.slice none 0 0,set,.pointer (some ⟨ws.heap.size,0,none⟩),.int .i64 i,.int .i64 T,.pointer (some ⟨bc,0,none⟩),.bool was,u11,.slice A n c,.tuple #[],u14,u15,u16,u17,u18,u19,u20,u21,u22,u23,u24,u25,u26,u27,u28,u29,u30,u31,u32,u33,u34,u35,u36,u37,u38,u39,u40,u41,u42,u43,u44,u45,u46,u47,u48,u49,u50,u51,u52,u53,u54,u55,u56,u57,u58,u59,u60,u61,u62,u63,u64,u65,u66,u67,u68,u69,u70,u71,u72,u73],defers:=[] } W):∀ a' W,SwJ1 w1 re0 A n c mb m a' W→C a' W:=by
 rintro a' W ⟨ws,re,i,T,set,out,lo,bc,cu,was,u11,u14,u15,u16,u17,u18,u19,u20,u21,u22,u23,u24,u25,u26,u27,u28,u29,u30,u31,u32,u33,u34,u35,u36,u37,u38,u39,u40,u41,u42,u43,u44,u45,u46,u47,u48,u49,u50,u51,u52,u53,u54,u55,u56,u57,u58,u59,u60,u61,u62,u63,u64,u65,u66,u67,u68,u69,u70,u71,u72,u73,h1,h2,h5,h6,h9,h7,h8,h3,rfl⟩
 exact h W ws re i T set out lo bc cu was u11 u14 u15 u16 u17 u18 u19 u20 u21 u22 u23 u24 u25 u26 u27 u28 u29 u30 u31 u32 u33 u34 u35 u36 u37 u38 u39 u40 u41 u42 u43 u44 u45 u46 u47 u48 u49 u50 u51 u52 u53 u54 u55 u56 u57 u58 u59 u60 u61 u62 u63 u64 u65 u66 u67 u68 u69 u70 u71 u72 u73 h1 h2 h5 h6 h9 h7 h8 h3
def SwM0 (n:Nat) (a':Act) (_:World):Nat:=2 * (n - (intOf (a'.tmps.getD 7 undef)).toNat)+1
def SwM1 (n:Nat) (a':Act) (_:World):Nat:=2 * (n - (intOf (a'.tmps.getD 7 undef)).toNat)
def SweepPost (w1:World) (m:Int) (re0:List REdge) (e:Ending) (w':World):Prop :=
 ∃ (B:Nat) (set:Value) (out:List RSp) (re:List REdge),e=.returned set∧re.Perm re0∧(re.Pairwise fun x y=>stand x.cut.cut y.cut.cut≤0)∧out.map RSp.sp=sweepL m (re.map REdge.edge)∧w1.heap.size≤B∧w'.ownsRow B 196 12 set out.length (out.flatMap RSp.vals) ∧
  (∀ s ∈ out,OwnC w' B s.lo∧OwnC w' B s.hi)∧out.length≤re0.length∧Below w1.heap.size w1 w'
theorem drop_ed (re:List REdge) (k:Nat) (h:k<re.length):(re.drop k).map REdge.edge=(re.getD k default).edge :: (re.drop (k+1)).map REdge.edge:=by
 rw [List.drop_eq_getElem_cons h,List.map_cons]; simp only [List.getD,List.getElem?_eq_getElem h,Option.getD_some]
theorem getE_mem {l:List REdge} {k:Nat} (h:k<l.length):l.getD k default ∈ l:=by simp [List.getD,List.getElem?_eq_getElem h]
theorem ed_cells {w:World} {g n:Nat} {l:List REdge} (h:∀ j,j<n→∀ i u,(l.getD j default).vals[i]?=some u→w.cell? ⟨g,0+j * 7+i,none⟩=some u) {k:Nat} (hk:k<n) :
  w.cell? ⟨g,k * 7,none⟩=some (.int .i64 (l.getD k default).cut.kind)∧w.cell? ⟨g,k * 7+1,none⟩=some (.int .u64 ((l.getD k default).cut.v.a))∧w.cell? ⟨g,k * 7+2,none⟩=some (.int .u64 ((l.getD k default).cut.v.b))∧w.cell? ⟨g,k * 7+3,none⟩=some (.int .u64 ((l.getD k default).cut.v.c))∧w.cell? ⟨g,k * 7+4,none⟩=some (.slice (l.getD k default).cut.A (l.getD k default).cut.v.pre.length (l.getD k default).cut.c)∧w.cell? ⟨g,k * 7+5,none⟩=some (.slice (l.getD k default).cut.B (l.getD k default).cut.v.build.length (l.getD k default).cut.d)∧w.cell? ⟨g,k * 7+6,none⟩=some (.int .i64 (l.getD k default).step):=by
 have h':=fun i u hu=>h k hk i u hu
 simp only [Nat.zero_add] at h'
 exact ⟨h' 0 _ rfl,h' 1 _ rfl,h' 2 _ rfl,h' 3 _ rfl,h' 4 _ rfl,h' 5 _ rfl,h' 6 _ rfl⟩

end Go.Proofs.YtgakcdcfblgagaaGreatDoor.Span
namespace Go.Proofs.YtgakcdcfblgagaaGreatDoor.Range
open Go.RowKit Num Ident Semver
theorem srow_none (w:World) (A:Option Addr):SRow w A 0 []:=⟨rfl,fun h=>absurd h (Nat.lt_irrefl _)⟩
theorem wtL_len:∀ l:List Rng,l.length≤wtL l
 | []=>Nat.le_refl _
 | r :: l=>by rw [wtL_cons,wt_eq,List.length_cons]; have:=wtL_len l; omega
theorem wt_mem {x:Rng}:∀ {l:List Rng},x ∈ l→wt x≤wtL l
 | [],h=>by cases h
 | y :: l,h=>by
  rw [wtL_cons]
  rcases List.mem_cons.1 h with rfl | h
  ·omega
  ·have:=wt_mem h; omega
theorem right_at {w:World} {S:Nat→Prop} {r:Rng} {x:RV} {d:Nat} (hx:Lies w S r x) (hg:goodR r d=true):d≤64∧goodL r.kind r.subs d=true∧r.subs.length=x.n∧r.kind=x.kind ∧
  ((1≤x.kind∧x.kind≤8∧goodV x.v=true∧x.n=0)∨(x.v=noVer∧((x.kind=0∧x.n=0)∨((x.kind=9∨x.kind=10)∧2≤x.n)∨(x.kind=11∧x.n=1)))):=by
 have hs:=hx.says
 obtain ⟨f,hl,_,_⟩:=hs.subs
 have hk:=hs.kind
 have hv:=hs.ver
 obtain ⟨kind,v,l⟩:=r
 obtain ⟨h1,h2,h3⟩:=good_cases hg
 simp only [Rng.kind,Rng.ver,Rng.subs] at hl hk hv ⊢
 subst hk; subst hv
 refine ⟨h1,h2,hl,rfl,?_⟩
 rcases h3 with ⟨a,b,c,rfl⟩ | ⟨a,⟨b,rfl⟩ | ⟨b,c⟩ | ⟨b,y,rfl⟩⟩
 ·exact .inl ⟨a,b,c,hl.symm⟩
 ·exact .inr ⟨a,.inl ⟨b,hl.symm⟩⟩
 ·exact .inr ⟨a,.inr (.inl ⟨b,hl ▸ c⟩)⟩
 ·exact .inr ⟨a,.inr (.inr ⟨b,hl.symm⟩)⟩
end Go.Proofs.YtgakcdcfblgagaaGreatDoor.Range
