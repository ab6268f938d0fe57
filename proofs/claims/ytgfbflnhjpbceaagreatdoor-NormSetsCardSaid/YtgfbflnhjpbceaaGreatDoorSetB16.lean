/-
  What the theorem of the last text needs of these: SpRefCmp, SpOwnCut, RgFore, SpSweepJ. Conditions: as each theorem states.
-/
import Derived.Test.YtgfbflnhjpbceaaGreatDoorSetB1
import Derived.Test.YtgfbflnhjpbceaaGreatDoorSetB2
import Derived.Test.YtgfbflnhjpbceaaGreatDoorSetB8
import Derived.Test.YtgfbflnhjpbceaaGreatDoorSetB13
import Derived.Test.YtgfbflnhjpbceaaGreatDoorSetB14
import Derived.Test.YtgfbflnhjpbceaaGreatDoorSetB15
import Derived.StillTailTactics
import Derived.Deep.RegionHeld3
set_option maxRecDepth 100000
set_option maxHeartbeats 25600000
namespace Go.Proofs.YtgfbflnhjpbceaaGreatDoor.Span
open Go.RowKit Num Ident Semver Prec

theorem good_short (pre:Bool):∀ (xs:List (List UInt8)) (i:Nat),goodFrom pre xs i=true→∀ x ∈ xs,x.length≤255
 | [],_,_,x,hx=>by cases hx
 | y :: r,i,h,x,hx=>by
  rw [goodFrom] at h
  simp only [Bool.and_eq_true,beq_iff_eq] at h
  rcases List.mem_cons.1 hx with rfl | hx
  ·exact (fault_pos h.1.1).2.1
  ·exact good_short pre r (i+1) h.2 x hx
theorem right_short {c:Cut} (h:right c=true):∀ x ∈ c.v.pre,x.length≤1000:=by
 by_cases h1:c.kind=0∨c.kind=3
 ·rw [right_ends h1] at h
  rw [sameV_none h]; intro x hx; cases hx
 ·by_cases h2:c.kind=1∨c.kind=2
  ·rw [right_ver h2,Bool.and_eq_true] at h
   have hg:=h.1
   unfold goodV at hg
   rw [Bool.and_eq_true,Bool.and_eq_true] at hg
   intro x hx
   exact Nat.le_trans (good_short true c.v.pre 0 hg.2.1 x hx) (by omega)
  ·rw [right_none h1 h2] at h; cases h
theorem cmpC_no {a b:Cut} (h:¬ (right a=true∧right b=true∧ofVer a=true∧ofVer b=true)):cmpC a b=ordI a.kind b.kind:=by
 unfold cmpC stand
 by_cases h1:right a=true∧right b=true
 ·rw [if_pos h1,if_neg (fun k=>h ⟨h1.1,h1.2,k.1,k.2.1⟩)]
 ·rw [if_neg h1]
theorem cmpC_v0 {a b:Cut} (h:cmpV a.v b.v=0):cmpC a b=ordI a.kind b.kind:=by
 unfold cmpC stand
 by_cases h1:right a=true∧right b=true
 ·rw [if_pos h1,if_neg (fun k=>k.2.2 h)]
 ·rw [if_neg h1]
theorem cmpC_v {a b:Cut} (h:right a=true∧right b=true∧ofVer a=true∧ofVer b=true) (h0:cmpV a.v b.v≠0):cmpC a b=cmpV a.v b.v:=by
 unfold cmpC stand
 rw [if_pos ⟨h.1,h.2.1⟩,if_pos ⟨h.2.2.1,h.2.2.2,h0⟩]

theorem refCompareC_any (r s:RCut) (w:World) (h1:Lies w r) (h2:Lies w s) :
  Calls Tryz.prog 32 #[.agg #[r.kind,r.v.a,r.v.b,r.v.c,.slice r.A r.v.pre.length r.c,.slice r.B r.v.build.length r.d],.agg #[s.kind,s.v.a,s.v.b,s.v.c,.slice s.A s.v.pre.length s.c,.slice s.B s.v.build.length s.d]] w fun e w'=>e=.returned (.int .i64 (cmpC r.cut s.cut))∧Below w.heap.size w w':=by
 have B0:Hid (Below w.heap.size w ((w.alloc r).alloc s)):=((Below.refl _ _).alloc (Nat.le_refl _) _).alloc (by simp) _
 have L0:=Lib.hid (h1.kept B0.out)
 have M0:=Lib.hid (h2.kept B0.out)
 have K0:Hid (At6B ((w.alloc r).alloc s) w.heap.size r.kind r.v.a r.v.b r.v.c (.slice r.A r.v.pre.length r.c) (.slice r.B r.v.build.length r.d)):=(At6B.new w _ _ _ _ _ _ _).kept ((Below.refl _ _).alloc (Nat.le_refl _) _) (by simp)
 have J0:Hid (At6B ((w.alloc r).alloc s) (w.heap.size+1) s.kind s.v.a s.v.b s.v.c (.slice s.A s.v.pre.length s.c) (.slice s.B s.v.build.length s.d)):=by
  have:=At6B.new (w.alloc r) 41 s.kind s.v.a s.v.b s.v.c (.slice s.A s.v.pre.length s.c) (.slice s.B s.v.build.length s.d)
  rw [size_alloc] at this; exact this
 clear h1 h2
 go_enter Tryz.func32,Tryz.ntmps32
 go_upto_region 1 with (fail)
 generalize ((w.alloc r).alloc s)=W at B0 L0 M0 K0 J0 ⊢
 obtain ⟨hz,_,x0,x1,x2,x3,x4,x5⟩:=K0.out
 obtain ⟨hy,_,y0,y1,y2,y3,y4,y5⟩:=J0.out
 go_wp2_with fail
 refine (refRight_any r _ L0.out).mono ?_
 rintro e w1 ⟨rfl,hb⟩
 have K1:=Lib.hid (K0.out.kept hb hz)
 have J1:=Lib.hid (J0.out.kept hb hy)
 have L1:=Lib.hid (L0.out.kept hb)
 have M1:=Lib.hid (M0.out.kept hb)
 have B1:=Lib.hid (B0.out.trans (hb.mono B0.out.size))
 clear hb hz hy x0 x1 x2 x3 x4 x5 y0 y1 y2 y3 y4 y5
 obtain ⟨hz,_,x0,x1,x2,x3,x4,x5⟩:=K1.out
 obtain ⟨hy,_,y0,y1,y2,y3,y4,y5⟩:=J1.out
 cases g1:right r.cut
 ·have HF:Hid (cmpC r.cut s.cut=ordI r.kind s.kind):=cmpC_no (by rw [g1]; rintro ⟨h,_⟩; cases h)
  clear g1
  rcases Int.lt_trichotomy r.kind s.kind with hk | hk | hk
  ·have HF2:=Lib.hid (HF.out.trans (ordI_lt hk))
   go_wp2
   go_ret
   exact ⟨by rw [HF2.out]; rfl,B1.out⟩
  ·have HF2:=Lib.hid (HF.out.trans (ordI_eq hk))
   have n1:decide (r.kind<s.kind)=false:=by simp; omega
   have n2:decide (s.kind<r.kind)=false:=by simp; omega
   clear hk
   go_wp2
   go_ret
   exact ⟨by rw [HF2.out]; rfl,B1.out⟩
  ·have HF2:=Lib.hid (HF.out.trans (ordI_gt hk))
   have n1:decide (r.kind<s.kind)=false:=by simp; omega
   go_wp2
   go_ret
   exact ⟨by rw [HF2.out]; rfl,B1.out⟩
 have G1:=Lib.hid g1
 clear g1
 go_wp2_with fail
 refine (refRight_any s _ M1.out).mono ?_
 rintro e w2 ⟨rfl,hb⟩
 have K2:=Lib.hid (K1.out.kept hb hz)
 have J2:=Lib.hid (J1.out.kept hb hy)
 have L2:=Lib.hid (L1.out.kept hb)
 have M2:=Lib.hid (M1.out.kept hb)
 have B2:=Lib.hid (B1.out.trans (hb.mono B1.out.size))
 clear hb hz hy x0 x1 x2 x3 x4 x5 y0 y1 y2 y3 y4 y5
 obtain ⟨hz,_,x0,x1,x2,x3,x4,x5⟩:=K2.out
 obtain ⟨hy,_,y0,y1,y2,y3,y4,y5⟩:=J2.out
 cases g2:right s.cut
 ·have HF:Hid (cmpC r.cut s.cut=ordI r.kind s.kind):=cmpC_no (by rw [g2]; rintro ⟨_,h,_⟩; cases h)
  clear g2
  rcases Int.lt_trichotomy r.kind s.kind with hk | hk | hk
  ·have HF2:=Lib.hid (HF.out.trans (ordI_lt hk))
   go_wp2
   go_ret
   exact ⟨by rw [HF2.out]; rfl,B2.out⟩
  ·have HF2:=Lib.hid (HF.out.trans (ordI_eq hk))
   have n1:decide (r.kind<s.kind)=false:=by simp; omega
   have n2:decide (s.kind<r.kind)=false:=by simp; omega
   clear hk
   go_wp2
   go_ret
   exact ⟨by rw [HF2.out]; rfl,B2.out⟩
  ·have HF2:=Lib.hid (HF.out.trans (ordI_gt hk))
   have n1:decide (r.kind<s.kind)=false:=by simp; omega
   go_wp2
   go_ret
   exact ⟨by rw [HF2.out]; rfl,B2.out⟩
 have G2:=Lib.hid g2
 clear g2
 by_cases o1:r.kind=1∨r.kind=2
 ·by_cases o2:s.kind=1∨s.kind=2
  ·have HO:Hid (right r.cut=true∧right s.cut=true∧ofVer r.cut=true∧ofVer s.cut=true):=⟨G1.out,G2.out,(ofVer_iff _).2 o1,(ofVer_iff _).2 o2⟩
   have hs1:(r.kind == 1)=true∨((r.kind == 1)=false∧(r.kind == 2)=true):=by
    rcases o1 with o1 | o1
    ·left; simp [o1]
    ·right; simp [o1]
   have hs2:(s.kind == 1)=true∨((s.kind == 1)=false∧(s.kind == 2)=true):=by
    rcases o2 with o2 | o2
    ·left; simp [o2]
    ·right; simp [o2]
   clear o1 o2
   rcases hs1 with p1 | ⟨p1,p1'⟩ <;> rcases hs2 with p2 | ⟨p2,p2'⟩
   all_goals
    go_wp2_with fail
    refine (Prec.refCompare_any r.v s.v _ _ _ _ _ _ _ _ _ L2.out.pre M2.out.pre L2.out.fpre.1 M2.out.fpre.1 (right_short G1.out) (right_short G2.out)).mono ?_
    rintro e w3 ⟨rfl,hb⟩
    have K3:=Lib.hid (K2.out.kept hb hz)
    have J3:=Lib.hid (J2.out.kept hb hy)
    have L3:=Lib.hid (L2.out.kept hb)
    have M3:=Lib.hid (M2.out.kept hb)
    have B3:=Lib.hid (B2.out.trans (hb.mono B2.out.size))
    clear hb hz hy x0 x1 x2 x3 x4 x5 y0 y1 y2 y3 y4 y5
    obtain ⟨hz,_,x0,x1,x2,x3,x4,x5⟩:=K3.out
    obtain ⟨hy,_,y0,y1,y2,y3,y4,y5⟩:=J3.out
    by_cases h0:cmpV r.v s.v=0
    ·have HF:Hid (cmpC r.cut s.cut=ordI r.kind s.kind):=cmpC_v0 h0
     rw [h0]
     clear h0
     rcases Int.lt_trichotomy r.kind s.kind with hk | hk | hk
     ·have HF2:=Lib.hid (HF.out.trans (ordI_lt hk))
      go_wp2
      go_ret
      exact ⟨by rw [HF2.out]; rfl,B3.out⟩
     ·have HF2:=Lib.hid (HF.out.trans (ordI_eq hk))
      have n1:decide (r.kind<s.kind)=false:=by simp; omega
      have n2:decide (s.kind<r.kind)=false:=by simp; omega
      clear hk
      go_wp2
      go_ret
      exact ⟨by rw [HF2.out]; rfl,B3.out⟩
     ·have HF2:=Lib.hid (HF.out.trans (ordI_gt hk))
      have n1:decide (r.kind<s.kind)=false:=by simp; omega
      go_wp2
      go_ret
      exact ⟨by rw [HF2.out]; rfl,B3.out⟩
    ·have HF:Hid (cmpC r.cut s.cut=cmpV r.v s.v):=cmpC_v HO.out h0
     generalize cmpV r.v s.v=cc at h0 HF ⊢
     have hn:(cc == 0)=false:=by simp [h0]
     have hn2:(cc != 0)=true:=by simp [h0]
     clear h0
     go_wp2
     go_ret
     exact ⟨by rw [HF.out]; rfl,B3.out⟩
  ·have HF:Hid (cmpC r.cut s.cut=ordI r.kind s.kind):=cmpC_no (by rintro ⟨_,_,_,h⟩; exact o2 ((ofVer_iff _).1 h))
   have hs1:(r.kind == 1)=true∨((r.kind == 1)=false∧(r.kind == 2)=true):=by
    rcases o1 with o1 | o1
    ·left; simp [o1]
    ·right; simp [o1]
   have p2:(s.kind == 1)=false:=by simp; omega
   have p2':(s.kind == 2)=false:=by simp; omega
   clear o1 o2
   rcases hs1 with p1 | ⟨p1,p1'⟩
   all_goals
    rcases Int.lt_trichotomy r.kind s.kind with hk | hk | hk
    ·have HF2:=Lib.hid (HF.out.trans (ordI_lt hk))
     go_wp2
     go_ret
     exact ⟨by rw [HF2.out]; rfl,B2.out⟩
    ·have HF2:=Lib.hid (HF.out.trans (ordI_eq hk))
     have n1:decide (r.kind<s.kind)=false:=by simp; omega
     have n2:decide (s.kind<r.kind)=false:=by simp; omega
     clear hk
     go_wp2
     go_ret
     exact ⟨by rw [HF2.out]; rfl,B2.out⟩
    ·have HF2:=Lib.hid (HF.out.trans (ordI_gt hk))
     have n1:decide (r.kind<s.kind)=false:=by simp; omega
     go_wp2
     go_ret
     exact ⟨by rw [HF2.out]; rfl,B2.out⟩
 ·have HF:Hid (cmpC r.cut s.cut=ordI r.kind s.kind):=cmpC_no (by rintro ⟨_,_,h,_⟩; exact o1 ((ofVer_iff _).1 h))
  have p1:(r.kind == 1)=false:=by simp; omega
  have p1':(r.kind == 2)=false:=by simp; omega
  clear o1
  rcases Int.lt_trichotomy r.kind s.kind with hk | hk | hk
  ·have HF2:=Lib.hid (HF.out.trans (ordI_lt hk))
   go_wp2
   go_ret
   exact ⟨by rw [HF2.out]; rfl,B2.out⟩
  ·have HF2:=Lib.hid (HF.out.trans (ordI_eq hk))
   have n1:decide (r.kind<s.kind)=false:=by simp; omega
   have n2:decide (s.kind<r.kind)=false:=by simp; omega
   clear hk
   go_wp2
   go_ret
   exact ⟨by rw [HF2.out]; rfl,B2.out⟩
  ·have HF2:=Lib.hid (HF.out.trans (ordI_gt hk))
   have n1:decide (r.kind<s.kind)=false:=by simp; omega
   go_wp2
   go_ret
   exact ⟨by rw [HF2.out]; rfl,B2.out⟩
end Go.Proofs.YtgfbflnhjpbceaaGreatDoor.Span
namespace Go.Proofs.YtgfbflnhjpbceaaGreatDoor.Span
open Go.RowKit Num Ident Semver Prec

theorem cuInfo:(Tryz.prog.info? 41).map (fun i=>(i.zero,i.size,i.bytes))=some (some (.agg #[.int .i64 0,.int .u64 0,.int .u64 0,.int .u64 0,.slice none 0 0,.slice none 0 0]),6,80):=by kernel_rfl
end Go.Proofs.YtgfbflnhjpbceaaGreatDoor.Span
namespace Go.Proofs.YtgfbflnhjpbceaaGreatDoor.Range
open Num Ident Semver

theorem sameV_eq {u v:Ver} (h:sameV u v=true):u=v:=by
 unfold sameV at h
 rw [Bool.and_eq_true,Bool.and_eq_true,decide_eq_true_eq,sameB_iff,sameB_iff] at h
 obtain ⟨a,b,c,p,q⟩:=u
 obtain ⟨a',b',c',p',q'⟩:=v
 obtain ⟨⟨h1,h2,h3⟩,h4,h5⟩:=h
 simp only at h1 h2 h3 h4 h5
 rw [h1,h2,h3,h4,h5]
theorem good_cases {kind:Int} {v:Ver} {l:List Rng} {d:Nat} (h:goodR (.mk kind v l) d=true) :
  d≤64∧goodL kind l d=true∧((1≤kind∧kind≤8∧goodV v=true∧l=[])∨(v=noVer∧((kind=0∧l=[])∨((kind=9∨kind=10)∧2≤l.length)∨(kind=11∧∃ x,l=[x])))):=by
 rw [goodR_eq,Bool.and_eq_true,Bool.and_eq_true,decide_eq_true_eq] at h
 refine ⟨h.1.1,h.2,?_⟩
 have hf:=h.1.2
 unfold fits at hf
 by_cases h1:ofVersion kind=true
 ·rw [if_pos h1,Bool.and_eq_true,decide_eq_true_eq] at hf
  unfold ofVersion at h1
  rw [decide_eq_true_eq] at h1
  exact .inl ⟨h1.1,h1.2,hf.1,List.eq_nil_of_length_eq_zero hf.2⟩
 ·rw [if_neg h1] at hf
  by_cases h2:sameV v noVer=false
  ·rw [if_pos h2] at hf; cases hf
  ·rw [if_neg h2] at hf
   refine .inr ⟨sameV_eq (by simpa using h2),?_⟩
   by_cases h3:kind=0
   ·rw [if_pos h3,decide_eq_true_eq] at hf; exact .inl ⟨h3,List.eq_nil_of_length_eq_zero hf⟩
   ·rw [if_neg h3] at hf
    by_cases h4:kind=9∨kind=10
    ·rw [if_pos h4,decide_eq_true_eq] at hf; exact .inr (.inl ⟨h4,hf⟩)
    ·rw [if_neg h4] at hf
     by_cases h5:kind=11
     ·rw [if_pos h5,decide_eq_true_eq] at hf
      exact .inr (.inr ⟨h5,List.length_eq_one_iff.1 hf⟩)
     ·rw [if_neg h5] at hf; cases hf
theorem goodL_mem {o:Int} {x:Rng}:∀ {l:List Rng} {d:Nat},goodL o l d=true→x ∈ l→goodR x (d+opens o x.kind)=true
 | [],_,_,h=>by cases h
 | r :: rs,d,hg,h=>by
  rw [goodL_cons,Bool.and_eq_true] at hg
  rcases List.mem_cons.1 h with rfl | h
  ·exact hg.1
  ·exact goodL_mem hg.2 h

structure Reads (r:Rng) (k:Nat) (rest:List UInt8):Prop where
 one:r.kind≠9→r.kind≠10→pone k (textR r ++ rest)=(0,blanks rest,r)
 every:r.kind≠10→furO (blanks rest)=none→everyF (pone k) (textR r ++ rest)=(0,blanks rest,r)
 expr:furO (blanks rest)=none→furE (blanks rest)=none→exprF (pone k) (textR r ++ rest)=(0,blanks rest,r)
end Go.Proofs.YtgfbflnhjpbceaaGreatDoor.Range
namespace Go.Proofs.YtgfbflnhjpbceaaGreatDoor.Span
open Go.RowKit Num Ident Semver Prec

structure SwFix (w1:World) (re0:List REdge) (A:Option Addr) (n mb:Nat) (m:Int) (ws:World) (re:List REdge):Prop where
 perm:re.Perm re0
 sorted:re.Pairwise fun x y=>stand x.cut.cut y.cut.cut≤0
 len:re.length=n
 small:n≤100000
 lies:∀ e ∈ re,Lies w1 e.cut
 right:∀ e ∈ re,right e.cut.cut=true
 step:∀ e ∈ re,-10≤e.step∧e.step≤10
 cells:0<n→∃ g,A=some ⟨g,0,none⟩∧g<ws.heap.size∧∀ j,j<n→∀ i u,(re.getD j default).vals[i]?=some u→ws.cell? ⟨g,0+j * 7+i,none⟩=some u
 mbl:mb<ws.heap.size
 mbc:ws.cell? ⟨mb,0,none⟩=some (.int .i64 m)
 old:Below w1.heap.size w1 ws
structure SwAt (w1 ws:World) (n i:Nat) (T:Int) (set:Value) (out:List RSp) (lo:RCut) (W:World):Prop where
 bel:Below ws.heap.size ws W
 lob:At6B W ws.heap.size lo.kind lo.v.a lo.v.b lo.v.c (.slice lo.A lo.v.pre.length lo.c) (.slice lo.B lo.v.build.length lo.d)
 own:W.ownsRow (ws.heap.size+1) 43 12 set out.length (out.flatMap RSp.vals)
 cuts:∀ s ∈ out,OwnC W (ws.heap.size+1) s.lo∧OwnC W (ws.heap.size+1) s.hi
 lies:Lies w1 lo
 bare:bare lo.v=lo.v
 few:lo.v.pre.length≤16
 len:out.length≤i
 lo10:-(10 * (i:Int))≤T
 hi10:T≤10 * (i:Int)
 ile:i≤n
theorem own_set6 {w:World} {B:Nat} {e:TypeId} {size:Nat} {v:Value} {n:Nat} {xs:List Value} (h:w.ownsRow B e size v n xs) {b:Nat} (hb:b<B) (v0 v1 v2 v3 v4 v5:Value):(Span.set6 w b v0 v1 v2 v3 v4 v5).ownsRow B e size v n xs :=
 ownsRow_setCell_below (ownsRow_setCell_below (ownsRow_setCell_below (ownsRow_setCell_below (ownsRow_setCell_below (ownsRow_setCell_below h (a:=⟨b,0,none⟩) hb v0) (a:=⟨b,1,none⟩) hb v1) (a:=⟨b,2,none⟩) hb v2) (a:=⟨b,3,none⟩) hb v3) (a:=⟨b,4,none⟩) hb v4) (a:=⟨b,5,none⟩) hb v5
theorem SwAt.kept {w1 ws:World} {n i:Nat} {T:Int} {set:Value} {out:List RSp} {lo:RCut} {W W':World} (h:SwAt w1 ws n i T set out lo W) (hb:Below W.heap.size W W'):SwAt w1 ws n i T set out lo W' :=
 {h with bel:=h.bel.trans (hb.mono h.bel.size),lob:=h.lob.kept hb h.lob.1,own:=own_below h.own hb,cuts:=fun s hs=>⟨(h.cuts s hs).1.kept hb,(h.cuts s hs).2.kept hb⟩ }
theorem At6B.drew {W:World} {b:Nat} {u0 u1 u2 u3 u4 u5:Value} (h:At6B W b u0 u1 u2 u3 u4 u5):At6B W.drew b u0 u1 u2 u3 u4 u5:=h
theorem region_append_sp {yl:Nat→Option Bool} {o:Oper} {a:Act} {w w':World} {K:Act→World→Prop} {Q:Exit→Act→World→Prop} {v v':Value} {y:Value} (hw:Region.wanted o yl=true) (s x:Operand)
  (ho:o.op=.call { callee:=.builtin .append,args:=#[s,x],argTypes:=#[31,31] }) (hs:a.eval s=v) (hx:a.eval x=y)
  (hrun:(Builtin.append_ #[31,31] o.type #[v,y]).run Tryz.prog w=.ok v' w') (h:K (a.put o.dst v') w'):if Region.wanted o yl=true then Oper.wp Tryz.prog o a w K Q else K (a.put o.dst undef) w:=by
 rw [if_pos hw]
 unfold Oper.wp execOp
 simp only [ho,resolve,invoke,builtin,Sem.run_bind,Sem.run_pure,Result.andThen_ok,List.map_toArray,List.map_cons,List.map_nil,hs,hx,hrun]
 exact h
theorem SwAt.setlo {w1 ws:World} {n i:Nat} {T:Int} {set:Value} {out:List RSp} {lo:RCut} {W:World} (h:SwAt w1 ws n i T set out lo W) (cu:RCut) (hl:Lies w1 cu) (hr:Span.right cu.cut=true):SwAt w1 ws n i T set out cu (Span.set6 W ws.heap.size cu.kind cu.v.a cu.v.b cu.v.c (.slice cu.A cu.v.pre.length cu.c) (.slice cu.B cu.v.build.length cu.d)) :=
 {h with bel:=below_set6 h.bel (Nat.le_refl _) _ _ _ _ _ _,lob:=h.lob.set6 _ _ _ _ _ _,own:=own_set6 h.own (Nat.lt_succ_self _) _ _ _ _ _ _,cuts:=fun s hs=>⟨(h.cuts s hs).1.set6 (Nat.lt_succ_self _) _ _ _ _ _ _,(h.cuts s hs).2.set6 (Nat.lt_succ_self _) _ _ _ _ _ _⟩,lies:=hl,bare:=right_bare hr,few:=(right_few hr).1 }
theorem SwAt.step {w1 ws:World} {n i:Nat} {T:Int} {set:Value} {out:List RSp} {lo:RCut} {W:World} (h:SwAt w1 ws n i T set out lo W) {d:Int} (h1:-10≤d) (h2:d≤10) (hi:i<n):SwAt w1 ws n (i+1) (T+d) set out lo W :=
 {h with len:=Nat.le_succ_of_le h.len,lo10:=by have:=h.lo10; omega,hi10:=by have:=h.hi10; omega,ile:=hi }
def Tag (W:World) (b:Nat):Prop:=∃ C,W.heap[b]?=some (.cells C 41 (0,0))
theorem Tag.kept {W W':World} {b B:Nat} (h:Tag W b) (hb:Below B W W') (hB:b<B):Tag W' b:=by
 obtain ⟨C,hC⟩:=h
 exact ⟨C,(hb.block b hB).trans hC⟩
theorem Tag.new (W:World) (C:Array Value):Tag (W.alloc (.cells C 41)) W.heap.size:=⟨C,by show (W.heap.push _)[W.heap.size]?=_; simp⟩
theorem Tag.apart {W:World} {b B:Nat} {set:Value} {n:Nat} {xs:List Value} (h:Tag W b) (ho:W.ownsRow B 43 12 set n xs):some b≠set.ownBlock:=by
 obtain ⟨C,hC⟩:=h
 rcases ho.2 with ⟨rfl,_⟩ | ⟨g,cap,cur,rfl,_,hg,_⟩
 ·intro h; cases h
 ·intro h
  have e:b=g:=by simpa [Value.ownBlock] using h
  subst e
  rw [hC] at hg
  injection hg with hg
  injection hg with _ h
  exact absurd h (by decide)
theorem At6B.grown {w w':World} {row:Option Nat} {b:Nat} {u0 u1 u2 u3 u4 u5:Value} (h:At6B w b u0 u1 u2 u3 u4 u5) (hg:w.grownBy w' row) (hne:some b≠row):At6B w' b u0 u1 u2 u3 u4 u5:=by
 obtain ⟨h1,h2,c0,c1,c2,c3,c4,c5⟩:=h
 have k:w'.heap[b]?=w.heap[b]?:=hg.block b h1 hne
 exact ⟨Nat.lt_of_lt_of_le h1 hg.size,fun o=>(World.frozen?_of_block (w:=w) (a:=⟨b,o,none⟩) k).trans (h2 o),(World.cell?_of_block (w:=w) (a:=⟨b,0,none⟩) k).trans c0,(World.cell?_of_block (w:=w) (a:=⟨b,1,none⟩) k).trans c1,(World.cell?_of_block (w:=w) (a:=⟨b,2,none⟩) k).trans c2,(World.cell?_of_block (w:=w) (a:=⟨b,3,none⟩) k).trans c3,(World.cell?_of_block (w:=w) (a:=⟨b,4,none⟩) k).trans c4,(World.cell?_of_block (w:=w) (a:=⟨b,5,none⟩) k).trans c5⟩
theorem SwAt.more {w1 ws:World} {n i:Nat} {T:Int} {set:Value} {out:List RSp} {lo:RCut} {W w7 w8:World} {v8:Value} {s:RSp} (h:SwAt w1 ws n i T set out lo W) (hb:Below W.heap.size W w7) (hl:OwnC w7 (ws.heap.size+1) s.lo) (hh:OwnC w7 (ws.heap.size+1) s.hi) (hg:w7.grownBy w8 set.ownBlock)
  (ho:w8.ownsRow (ws.heap.size+1) 43 12 v8 (out.length+1) ((out ++ [s]).flatMap RSp.vals)) (hi:out.length+1≤i):SwAt w1 ws n i T v8 (out ++ [s]) lo w8 :=
 have o7:=own_below h.own hb
 have b8:Below (ws.heap.size+1) W w8:=(hb.mono h.lob.1).grown hg (Nat.le_trans h.lob.1 hb.size) (fun k hk=>(h.own.lt k hk).1)
 {bel:=h.bel.trans (b8.mono (Nat.le_succ _)),lob:=h.lob.kept b8 (Nat.lt_succ_self _),own:=by rw [List.length_append]; exact ho,
  cuts:=fun x hx=>by
   rcases List.mem_append.1 hx with hx | hx
   ·exact ⟨((h.cuts x hx).1.kept hb).grown o7 hg,((h.cuts x hx).2.kept hb).grown o7 hg⟩
   ·rw [List.mem_singleton] at hx; subst hx; exact ⟨hl.grown o7 hg,hh.grown o7 hg⟩,
  lies:=h.lies,bare:=h.bare,few:=h.few,len:=by rw [List.length_append]; exact hi,lo10:=h.lo10,hi10:=h.hi10,ile:=h.ile }
def SwJ0 (w1:World) (re0:List REdge) (A:Option Addr) (n c mb:Nat) (m:Int) (a':Act) (W:World):Prop :=
 ∃ (ws:World) (re:List REdge) (i:Nat) (T:Int) (set:Value) (out:List RSp) (lo:RCut) (u9 u10 u11 u14 u15 u16 u17 u18 u19 u20 u21 u22 u23 u24 u25 u26 u27 u28 u29 u30 u31 u32 u33 u34 u35 u36 u37 u38 u39 u40 u41 u42 u43 u44 u45 u46 u47 u48 u49 u50 u51 u52 u53 u54 u55 u56 u57 u58 u59 u60 u61 u62 u63 u64 u65 u66 u67 u68 u69 u70 u71 u72 u73:Value),SwFix w1 re0 A n mb m ws re∧SwAt w1 ws n i T set out lo W ∧
  sweepL m (re.map REdge.edge)=out.map RSp.sp ++ nextL m T lo.cut ((re.drop i).map REdge.edge)∧a'={ tmps:=#[.slice A n c,.func (.func 86) #[] #[.pointer (some ⟨mb,0,none⟩)],undef,undef,.slice none 0 0,set,.pointer (some ⟨ws.heap.size,0,none⟩),.int .i64 i,.int .i64 T,u9,u10,u11,.slice A n c,.tuple #[],u14,u15,u16,u17,u18,u19,u20,u21,u22,u23,u24,u25,u26,u27,u28,u29,u30,u31,u32,u33,u34,u35,u36,u37,u38,u39,u40,u41,u42,u43,u44,u45,u46,u47,u48,u49,u50,u51,u52,u53,u54,u55,u56,u57,u58,u59,u60,u61,u62,u63,u64,u65,u66,u67,u68,u69,u70,u71,u72,u73],defers:=[] }
def SwJ1 (w1:World) (re0:List REdge) (A:Option Addr) (n c mb:Nat) (m:Int) (a':Act) (W:World):Prop :=
 ∃ (ws:World) (re:List REdge) (i:Nat) (T:Int) (set:Value) (out:List RSp) (lo:RCut) (bc:Nat) (cu:RCut) (was:Bool) (u11 u14 u15 u16 u17 u18 u19 u20 u21 u22 u23 u24 u25 u26 u27 u28 u29 u30 u31 u32 u33 u34 u35 u36 u37 u38 u39 u40 u41 u42 u43 u44 u45 u46 u47 u48 u49 u50 u51 u52 u53 u54 u55 u56 u57 u58 u59 u60 u61 u62 u63 u64 u65 u66 u67 u68 u69 u70 u71 u72 u73:Value),SwFix w1 re0 A n mb m ws re∧SwAt w1 ws n i T set out lo W∧i<n ∧
  At6B W bc cu.kind cu.v.a cu.v.b cu.v.c (.slice cu.A cu.v.pre.length cu.c) (.slice cu.B cu.v.build.length cu.d)∧Tag W bc∧Lies w1 cu∧right cu.cut=true∧sweepL m (re.map REdge.edge)=out.map RSp.sp ++ go m cu.cut was T lo.cut ((re.drop i).map REdge.edge)∧a'={ tmps:=#[.slice A n c,.func (.func 86) #[] #[.pointer (some ⟨mb,0,none⟩)],undef,undef,.slice none 0 0,set,.pointer (some ⟨ws.heap.size,0,none⟩),.int .i64 i,.int .i64 T,.pointer (some ⟨bc,0,none⟩),.bool was,u11,.slice A n c,.tuple #[],u14,u15,u16,u17,u18,u19,u20,u21,u22,u23,u24,u25,u26,u27,u28,u29,u30,u31,u32,u33,u34,u35,u36,u37,u38,u39,u40,u41,u42,u43,u44,u45,u46,u47,u48,u49,u50,u51,u52,u53,u54,u55,u56,u57,u58,u59,u60,u61,u62,u63,u64,u65,u66,u67,u68,u69,u70,u71,u72,u73],defers:=[] }
theorem SwJ0.mk {w1:World} {re0:List REdge} {A:Option Addr} {n c mb:Nat} {m:Int} {a':Act} {W:World} (ws:World) (re:List REdge) (i:Nat) (T:Int) (set:Value) (out:List RSp) (lo:RCut) {u9 u10 u11 u14 u15 u16 u17 u18 u19 u20 u21 u22 u23 u24 u25 u26 u27 u28 u29 u30 u31 u32 u33 u34 u35 u36 u37 u38 u39 u40 u41 u42 u43 u44 u45 u46 u47 u48 u49 u50 u51 u52 u53 u54 u55 u56 u57 u58 u59 u60 u61 u62 u63 u64 u65 u66 u67 u68 u69 u70 u71 u72 u73:Value} (h1:SwFix w1 re0 A n mb m ws re) (h2:SwAt w1 ws n i T set out lo W)
  (h3:sweepL m (re.map REdge.edge)=out.map RSp.sp ++ nextL m T lo.cut ((re.drop i).map REdge.edge)) (h4:a'={ tmps:=#[.slice A n c,.func (.func 86) #[] #[.pointer (some ⟨mb,0,none⟩)],undef,undef,.slice none 0 0,set,.pointer (some ⟨ws.heap.size,0,none⟩),.int .i64 i,.int .i64 T,u9,u10,u11,.slice A n c,.tuple #[],u14,u15,u16,u17,u18,u19,u20,u21,u22,u23,u24,u25,u26,u27,u28,u29,u30,u31,u32,u33,u34,u35,u36,u37,u38,u39,u40,u41,u42,u43,u44,u45,u46,u47,u48,u49,u50,u51,u52,u53,u54,u55,u56,u57,u58,u59,u60,u61,u62,u63,u64,u65,u66,u67,u68,u69,u70,u71,u72,u73],defers:=[] }):SwJ0 w1 re0 A n c mb m a' W :=
 ⟨ws,re,i,T,set,out,lo,u9,u10,u11,u14,u15,u16,u17,u18,u19,u20,u21,u22,u23,u24,u25,u26,u27,u28,u29,u30,u31,u32,u33,u34,u35,u36,u37,u38,u39,u40,u41,u42,u43,u44,u45,u46,u47,u48,u49,u50,u51,u52,u53,u54,u55,u56,u57,u58,u59,u60,u61,u62,u63,u64,u65,u66,u67,u68,u69,u70,u71,u72,u73,h1,h2,h3,h4⟩
theorem SwJ0.out {w1:World} {re0:List REdge} {A:Option Addr} {n c mb:Nat} {m:Int} {C:Act→World→Prop} (h:∀ (W:World) (ws:World) (re:List REdge) (i:Nat) (T:Int) (set:Value) (out:List RSp) (lo:RCut) (u9 u10 u11 u14 u15 u16 u17 u18 u19 u20 u21 u22 u23 u24 u25 u26 u27 u28 u29 u30 u31 u32 u33 u34 u35 u36 u37 u38 u39 u40 u41 u42 u43 u44 u45 u46 u47 u48 u49 u50 u51 u52 u53 u54 u55 u56 u57 u58 u59 u60 u61 u62 u63 u64 u65 u66 u67 u68 u69 u70 u71 u72 u73:Value),SwFix w1 re0 A n mb m ws re→SwAt w1 ws n i T set out lo W →
  sweepL m (re.map REdge.edge)=out.map RSp.sp ++ nextL m T lo.cut ((re.drop i).map REdge.edge)→C { tmps:=#[.slice A n c,.func (.func 86) #[] #[.pointer (some ⟨mb,0,none⟩)],undef,undef,.slice none 0 0,set,.pointer (some ⟨ws.heap.size,0,none⟩),.int .i64 i,.int .i64 T,u9,u10,u11,.slice A n c,.tuple #[],u14,u15,u16,u17,u18,u19,u20,u21,u22,u23,u24,u25,u26,u27,u28,u29,u30,u31,u32,u33,u34,u35,u36,u37,u38,u39,u40,u41,u42,u43,u44,u45,u46,u47,u48,u49,u50,u51,u52,u53,u54,u55,u56,u57,u58,u59,u60,u61,u62,u63,u64,u65,u66,u67,u68,u69,u70,u71,u72,u73],defers:=[] } W):∀ a' W,SwJ0 w1 re0 A n c mb m a' W→C a' W:=by
 rintro a' W ⟨ws,re,i,T,set,out,lo,u9,u10,u11,u14,u15,u16,u17,u18,u19,u20,u21,u22,u23,u24,u25,u26,u27,u28,u29,u30,u31,u32,u33,u34,u35,u36,u37,u38,u39,u40,u41,u42,u43,u44,u45,u46,u47,u48,u49,u50,u51,u52,u53,u54,u55,u56,u57,u58,u59,u60,u61,u62,u63,u64,u65,u66,u67,u68,u69,u70,u71,u72,u73,h1,h2,h3,rfl⟩
 exact h W ws re i T set out lo u9 u10 u11 u14 u15 u16 u17 u18 u19 u20 u21 u22 u23 u24 u25 u26 u27 u28 u29 u30 u31 u32 u33 u34 u35 u36 u37 u38 u39 u40 u41 u42 u43 u44 u45 u46 u47 u48 u49 u50 u51 u52 u53 u54 u55 u56 u57 u58 u59 u60 u61 u62 u63 u64 u65 u66 u67 u68 u69 u70 u71 u72 u73 h1 h2 h3
theorem SwJ1.mk {w1:World} {re0:List REdge} {A:Option Addr} {n c mb:Nat} {m:Int} {a':Act} {W:World} (ws:World) (re:List REdge) (i:Nat) (T:Int) (set:Value) (out:List RSp) (lo:RCut) (bc:Nat) (cu:RCut) (was:Bool) {u11 u14 u15 u16 u17 u18 u19 u20 u21 u22 u23 u24 u25 u26 u27 u28 u29 u30 u31 u32 u33 u34 u35 u36 u37 u38 u39 u40 u41 u42 u43 u44 u45 u46 u47 u48 u49 u50 u51 u52 u53 u54 u55 u56 u57 u58 u59 u60 u61 u62 u63 u64 u65 u66 u67 u68 u69 u70 u71 u72 u73:Value} (h1:SwFix w1 re0 A n mb m ws re) (h2:SwAt w1 ws n i T set out lo W) (h5:i<n)
  (h6:At6B W bc cu.kind cu.v.a cu.v.b cu.v.c (.slice cu.A cu.v.pre.length cu.c) (.slice cu.B cu.v.build.length cu.d)) (h9:Tag W bc) (h7:Lies w1 cu) (h8:right cu.cut=true) (h3:sweepL m (re.map REdge.edge)=out.map RSp.sp ++ go m cu.cut was T lo.cut ((re.drop i).map REdge.edge)) (h4:a'={ tmps:=#[.slice A n c,.func (.func 86) #[] #[.pointer (some ⟨mb,0,none⟩)],undef,undef,.slice none 0 0,set,.pointer (some ⟨ws.heap.size,0,none⟩),.int .i64 i,.int .i64 T,.pointer (some ⟨bc,0,none⟩),.bool was,u11,.slice A n c,.tuple #[],u14,u15,u16,u17,u18,u19,u20,u21,u22,u23,u24,u25,u26,u27,u28,u29,u30,u31,u32,u33,u34,u35,u36,u37,u38,u39,u40,u41,u42,u43,u44,u45,u46,u47,u48,u49,u50,u51,u52,u53,u54,u55,u56,u57,u58,u59,u60,u61,u62,u63,u64,u65,u66,u67,u68,u69,u70,u71,u72,u73],defers:=[] }):SwJ1 w1 re0 A n c mb m a' W :=
 ⟨ws,re,i,T,set,out,lo,bc,cu,was,u11,u14,u15,u16,u17,u18,u19,u20,u21,u22,u23,u24,u25,u26,u27,u28,u29,u30,u31,u32,u33,u34,u35,u36,u37,u38,u39,u40,u41,u42,u43,u44,u45,u46,u47,u48,u49,u50,u51,u52,u53,u54,u55,u56,u57,u58,u59,u60,u61,u62,u63,u64,u65,u66,u67,u68,u69,u70,u71,u72,u73,h1,h2,h5,h6,h9,h7,h8,h3,h4⟩
theorem SwJ1.out {w1:World} {re0:List REdge} {A:Option Addr} {n c mb:Nat} {m:Int} {C:Act→World→Prop} (h:∀ (W:World) (ws:World) (re:List REdge) (i:Nat) (T:Int) (set:Value) (out:List RSp) (lo:RCut) (bc:Nat) (cu:RCut) (was:Bool) (u11 u14 u15 u16 u17 u18 u19 u20 u21 u22 u23 u24 u25 u26 u27 u28 u29 u30 u31 u32 u33 u34 u35 u36 u37 u38 u39 u40 u41 u42 u43 u44 u45 u46 u47 u48 u49 u50 u51 u52 u53 u54 u55 u56 u57 u58 u59 u60 u61 u62 u63 u64 u65 u66 u67 u68 u69 u70 u71 u72 u73:Value),SwFix w1 re0 A n mb m ws re→SwAt w1 ws n i T set out lo W→i<n →
  At6B W bc cu.kind cu.v.a cu.v.b cu.v.c (.slice cu.A cu.v.pre.length cu.c) (.slice cu.B cu.v.build.length cu.d)→Tag W bc→Lies w1 cu→right cu.cut=true→sweepL m (re.map REdge.edge)=out.map RSp.sp ++ go m cu.cut was T lo.cut ((re.drop i).map REdge.edge)→C { tmps:=#[.slice A n c,.func (.func 86) #[] #[.pointer (some ⟨mb,0,none⟩)],undef,undef,.slice none 0 0,set,.pointer (some ⟨ws.heap.size,0,none⟩),.int .i64 i,.int .i64 T,.pointer (some ⟨bc,0,none⟩),.bool was,u11,.slice A n c,.tuple #[],u14,u15,u16,u17,u18,u19,u20,u21,u22,u23,u24,u25,u26,u27,u28,u29,u30,u31,u32,u33,u34,u35,u36,u37,u38,u39,u40,u41,u42,u43,u44,u45,u46,u47,u48,u49,u50,u51,u52,u53,u54,u55,u56,u57,u58,u59,u60,u61,u62,u63,u64,u65,u66,u67,u68,u69,u70,u71,u72,u73],defers:=[] } W):∀ a' W,SwJ1 w1 re0 A n c mb m a' W→C a' W:=by
 rintro a' W ⟨ws,re,i,T,set,out,lo,bc,cu,was,u11,u14,u15,u16,u17,u18,u19,u20,u21,u22,u23,u24,u25,u26,u27,u28,u29,u30,u31,u32,u33,u34,u35,u36,u37,u38,u39,u40,u41,u42,u43,u44,u45,u46,u47,u48,u49,u50,u51,u52,u53,u54,u55,u56,u57,u58,u59,u60,u61,u62,u63,u64,u65,u66,u67,u68,u69,u70,u71,u72,u73,h1,h2,h5,h6,h9,h7,h8,h3,rfl⟩
 exact h W ws re i T set out lo bc cu was u11 u14 u15 u16 u17 u18 u19 u20 u21 u22 u23 u24 u25 u26 u27 u28 u29 u30 u31 u32 u33 u34 u35 u36 u37 u38 u39 u40 u41 u42 u43 u44 u45 u46 u47 u48 u49 u50 u51 u52 u53 u54 u55 u56 u57 u58 u59 u60 u61 u62 u63 u64 u65 u66 u67 u68 u69 u70 u71 u72 u73 h1 h2 h5 h6 h9 h7 h8 h3
def SwM0 (n:Nat) (a':Act) (_:World):Nat:=2 * (n - (intOf (a'.tmps.getD 7 undef)).toNat)+1
def SwM1 (n:Nat) (a':Act) (_:World):Nat:=2 * (n - (intOf (a'.tmps.getD 7 undef)).toNat)
def SweepPost (w1:World) (m:Int) (re0:List REdge) (e:Ending) (w':World):Prop :=
 ∃ (B:Nat) (set:Value) (out:List RSp) (re:List REdge),e=.returned set∧re.Perm re0∧(re.Pairwise fun x y=>stand x.cut.cut y.cut.cut≤0)∧out.map RSp.sp=sweepL m (re.map REdge.edge)∧w1.heap.size≤B∧w'.ownsRow B 43 12 set out.length (out.flatMap RSp.vals) ∧
  (∀ s ∈ out,OwnC w' B s.lo∧OwnC w' B s.hi)∧out.length≤re0.length∧Below w1.heap.size w1 w'
theorem drop_ed (re:List REdge) (k:Nat) (h:k<re.length):(re.drop k).map REdge.edge=(re.getD k default).edge :: (re.drop (k+1)).map REdge.edge:=by
 rw [List.drop_eq_getElem_cons h,List.map_cons]; simp only [List.getD,List.getElem?_eq_getElem h,Option.getD_some]
theorem getE_mem {l:List REdge} {k:Nat} (h:k<l.length):l.getD k default ∈ l:=by simp [List.getD,List.getElem?_eq_getElem h]
theorem ed_cells {w:World} {g n:Nat} {l:List REdge} (h:∀ j,j<n→∀ i u,(l.getD j default).vals[i]?=some u→w.cell? ⟨g,0+j * 7+i,none⟩=some u) {k:Nat} (hk:k<n) :
  w.cell? ⟨g,k * 7,none⟩=some (.int .i64 (l.getD k default).cut.kind)∧w.cell? ⟨g,k * 7+1,none⟩=some (.int .u64 ((l.getD k default).cut.v.a))∧w.cell? ⟨g,k * 7+2,none⟩=some (.int .u64 ((l.getD k default).cut.v.b))∧w.cell? ⟨g,k * 7+3,none⟩=some (.int .u64 ((l.getD k default).cut.v.c))∧w.cell? ⟨g,k * 7+4,none⟩=some (.slice (l.getD k default).cut.A (l.getD k default).cut.v.pre.length (l.getD k default).cut.c)∧w.cell? ⟨g,k * 7+5,none⟩=some (.slice (l.getD k default).cut.B (l.getD k default).cut.v.build.length (l.getD k default).cut.d)∧w.cell? ⟨g,k * 7+6,none⟩=some (.int .i64 (l.getD k default).step):=by
 have h':=fun i u hu=>h k hk i u hu
 simp only [Nat.zero_add] at h'
 exact ⟨h' 0 _ rfl,h' 1 _ rfl,h' 2 _ rfl,h' 3 _ rfl,h' 4 _ rfl,h' 5 _ rfl,h' 6 _ rfl⟩

end Go.Proofs.YtgfbflnhjpbceaaGreatDoor.Span
