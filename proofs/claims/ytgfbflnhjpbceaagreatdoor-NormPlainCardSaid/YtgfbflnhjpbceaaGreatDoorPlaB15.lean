/-
  What the theorem of the last text needs of these: SpHas, RgOp, SpAt, SpRefCmp, SpOwnCut, SpSame. Conditions: as each theorem states.
-/
import Derived.Test.YtgfbflnhjpbceaaGreatDoorPlaB1
import Derived.Test.YtgfbflnhjpbceaaGreatDoorPlaB8
import Derived.Test.YtgfbflnhjpbceaaGreatDoorPlaB13
import Derived.Test.YtgfbflnhjpbceaaGreatDoorShelfHas
import Derived.RegionTactic
import Derived.ChangeAlike
import Derived.StillTailTactics
import Derived.Deep.CutBlock
import Derived.Deep.DeepCutAuto
import Derived.Deep.RegionHeld3
set_option maxRecDepth 100000
set_option maxHeartbeats 25600000
namespace Go.Proofs.YtgfbflnhjpbceaaGreatDoor.Span
open Go.RowKit Num Ident Semver Prec



structure LaidS (w:World) where
 s:RSp
 h:LiesS w s


end Go.Proofs.YtgfbflnhjpbceaaGreatDoor.Span
namespace Go.Proofs.YtgfbflnhjpbceaaGreatDoor.Range
open Go.RowKit Num Ident Semver

def OpsTab (w:World):Prop:=∀ i,i<8→w.cell? ⟨0,i,none⟩=some (.string (mk (ops.getD i [])))
theorem OpsTab.keep {w w':World} (h:OpsTab w) (k:Keep w w'):OpsTab w':=fun i hi=>k.cell _ _ _ (h i hi) (.inl fun x e=>by cases e)
theorem opFrom_at (s:List UInt8) (k:Nat) (hk:k<8):opFrom s (ops.drop k) ((k:Int)+1)=if stands (ops.getD k []) s=true then ((k:Int)+1,ops.getD k []) else opFrom s (ops.drop (k+1)) (((k+1:Nat):Int)+1):=by
 have e:ops.drop k=ops.getD k [] :: ops.drop (k+1):=by
  rw [List.drop_eq_getElem_cons (show k<ops.length from hk)]
  simp [List.getD,List.getElem?_eq_getElem (show k<ops.length from hk)]
 rw [e,opFrom]
 rfl
theorem ops_len (k:Nat):(ops.getD k []).length≤1000:=by
 unfold ops
 match k with
 | 0 | 1 | 2 | 3 | 4 | 5 | 6 | 7=>decide
 | k+8=>exact Nat.zero_le _
def OpJ (w:World) (b:Nat) (A:Option Addr) (n c p:Nat) (s:List UInt8) (i:Value) (W:World):Prop :=
 ∃ k:Nat,k≤8∧i=.int .i64 k∧opFrom s (ops.drop k) ((k:Int)+1)=opOf s∧Rd W b A n c p∧Moved b w W
theorem op_any (b:Nat) (A:Option Addr) (n c p:Nat) (l s:List UInt8) (w:World) (hR:Rd w b A n c p) (hr:Row w A n l) (hc:n≤c) (hs:Pl l p s) (ht:OpsTab w) :
  Calls Tryz.prog 157 #[.pointer (some ⟨b,0,none⟩)] w fun e w'=>e=.returned (.tuple #[.int .i64 (opOf s).1,.string (mk (opOf s).2)])∧Rd w' b A n c p∧Moved b w w':=by
 have HR:=Lib.hid hR
 have HRow:=Lib.hid hr
 have HP:=Lib.hid hs
 have HT:=Lib.hid ht
 clear hR hr hs ht
 go_enter Tryz.func157,Tryz.ntmps157
 go_wp2
 go_loopw [5] (fun i W=>OpJ w b A n c p s i W) (fun i _=>8 - (intOf i).toNat)
 case atStart=>exact ⟨0,by omega,rfl,rfl,HR.out,Moved.refl _ _⟩
 case round =>
  obtain ⟨k,hk,rfl,hop,hR1,hM1⟩:=hrel
  have HR1:=Lib.hid hR1
  have HM1:=Lib.hid hM1
  have HOp:=Lib.hid hop
  have HK:=Lib.hid (HR.out.keep hM1)
  have HT1:=Lib.hid (HT.out.keep HK.out)
  have HRow1:=Lib.hid (row_keep HRow.out HK.out)
  clear hR1 hM1 hop
  by_cases hlt:k<8
  ·have hx:=HT1.out k hlt
   have HSt:=Lib.hid (opFrom_at s k hlt)
   have HC:=Lib.hid (fun W (h1:Rd W b A n c p) (h2:Row W A n l)=>stands_any b A n c p l s (ops.getD k []) W h1 h2 hc HP.out (ops_len k))
   generalize ops.getD k []=t at hx HSt HC
   go_wp2_with fail
   refine (HC.out _ HR1.out HRow1.out).mono ?_
   rintro e w2 ⟨rfl,hR2,hM2⟩
   have HR2:=Lib.hid hR2
   have hx2:w2.cell? ⟨0,k,none⟩=some (.string (mk t)):=(HR1.out.keep hM2).cell _ _ _ hx (.inl fun x e=>by cases e)
   have HM2:=Lib.hid (HM1.out.trans hM2)
   clear hR2 hM2
   cases hst:stands t s with
   | true =>
    have HF:Hid (opOf s=(1+(k:Int),t)):=by
     have:=HSt.out
     rw [hst,if_pos rfl] at this
     rw [Int.add_comm]; exact HOp.out.symm.trans this
    clear HSt hx
    go_wp2_with fail
    go_quiet (fail)
    go_wp2
    go_ret2
    rw [HF.out]
    exact ⟨rfl,HR2.out.drewN _,HM2.out.drewN _⟩
   | false =>
    have HF:Hid (opFrom s (ops.drop (k+1)) (((k+1:Nat):Int)+1)=opOf s):=by
     have:=HSt.out
     rw [hst,if_neg (by simp)] at this
     exact this.symm.trans HOp.out
    clear HSt hx
    go_wp2
    exact ⟨⟨k+1,by omega,by go_num,HF.out,HR2.out,HM2.out⟩,by simp [intOf]; omega⟩
  ·have HF:Hid (opOf s=(5,[])):=by
    have h8:k=8:=by omega
    have:=HOp.out
    rw [h8] at this
    exact this.symm
   have hk8:k=8:=by omega
   subst hk8
   go_wp2
   go_ret2
   rw [HF.out]
   exact ⟨rfl,HR1.out,HM1.out⟩
def FurPost (b:Nat) (A:Option Addr) (n c p:Nat) (l:List UInt8) (w:World) (f:Option (List UInt8)) (e:Ending) (w':World):Prop :=
 Moved b w w'∧match f with
  | some s'=>e=.returned (.bool true)∧∃ q,Pl l q s'∧Rd w' b A n c q
  | none=>e=.returned (.bool false)∧Rd w' b A n c p
theorem furE_any (b:Nat) (A:Option Addr) (n c p:Nat) (l s:List UInt8) (w:World) (hR:Rd w b A n c p) (hr:Row w A n l) (hc:n≤c) (hs:Pl l p s) :
  Calls Tryz.prog 115 #[.pointer (some ⟨b,0,none⟩)] w (FurPost b A n c p l w (furE s)):=by
 have HR:=Lib.hid hR
 have HRow:=Lib.hid hr
 have HP:=Lib.hid hs
 have HFU:Hid (furE s=if stands [124,124] s=true then some (blanks (s.drop 2)) else none):=rfl
 have HLen:=Lib.hid (fun h=>stands_len (t:=[124,124]) (s:=s) h)
 clear hR hr hs
 go_enter Tryz.func115,Tryz.ntmps115
 go_wp2_with fail
 refine (stands_any b A n c p l s [124,124] _ HR.out HRow.out hc HP.out (by decide)).mono ?_
 rintro e w1 ⟨rfl,hR1,hM1⟩
 have HR1:=Lib.hid hR1
 have HM1:=Lib.hid hM1
 have HRow1:=Lib.hid (row_keep HRow.out (HR.out.keep hM1))
 clear hR1 hM1
 cases hst:stands [124,124] s with
 | true =>
  rw [hst] at HFU
  have HF:Hid (furE s=some (blanks (s.drop 2))):=HFU.out
  have h2:=HLen.out hst
  rw [HP.out.len,HRow.out.1] at h2
  have hpn:=HP.out.le
  rw [HRow.out.1] at hpn
  have hk:p+2≤n:=by simp at h2; omega
  clear h2
  go_wp2_with fail
  refine (pass_any b A n c p 2 l s _ HR1.out HRow1.out HP.out hk).mono ?_
  rintro e w2 ⟨rfl,q,hq,hR2,hM2⟩
  go_wp2
  go_ret
  rw [HF.out]
  exact ⟨HM1.out.trans hM2,rfl,q,hq,hR2⟩
 | false =>
  rw [hst] at HFU
  have HF:Hid (furE s=none):=HFU.out
  go_wp2
  go_ret
  rw [HF.out]
  exact ⟨HM1.out,rfl,HR1.out⟩
theorem furO_any (b:Nat) (A:Option Addr) (n c p:Nat) (l s:List UInt8) (w:World) (hR:Rd w b A n c p) (hr:Row w A n l) (hc:n≤c) (hs:Pl l p s) :
  Calls Tryz.prog 143 #[.pointer (some ⟨b,0,none⟩)] w (FurPost b A n c p l w (furO s)):=by
 have HR:=Lib.hid hR
 have HRow:=Lib.hid hr
 have HP:=Lib.hid hs
 have HFU:Hid (furO s=if stands [44] s=true then some (blanks (s.drop 1)) else if oneOf starts s=true then some s else none):=rfl
 have HLen:=Lib.hid (fun h=>stands_len (t:=[44]) (s:=s) h)
 clear hR hr hs
 go_enter Tryz.func143,Tryz.ntmps143
 go_wp2_with fail
 refine (stands_any b A n c p l s [44] _ HR.out HRow.out hc HP.out (by decide)).mono ?_
 rintro e w1 ⟨rfl,hR1,hM1⟩
 have HR1:=Lib.hid hR1
 have HM1:=Lib.hid hM1
 have HRow1:=Lib.hid (row_keep HRow.out (HR.out.keep hM1))
 clear hR1 hM1
 cases hst:stands [44] s with
 | true =>
  rw [hst] at HFU
  have HF:Hid (furO s=some (blanks (s.drop 1))):=HFU.out
  have h2:=HLen.out hst
  rw [HP.out.len,HRow.out.1] at h2
  have hpn:=HP.out.le
  rw [HRow.out.1] at hpn
  have hk:p+1≤n:=by simp at h2; omega
  clear h2
  go_wp2_with fail
  refine (pass_any b A n c p 1 l s _ HR1.out HRow1.out HP.out hk).mono ?_
  rintro e w2 ⟨rfl,q,hq,hR2,hM2⟩
  go_wp2
  go_ret
  rw [HF.out]
  exact ⟨HM1.out.trans hM2,rfl,q,hq,hR2⟩
 | false =>
  rw [hst] at HFU
  have HFU2:Hid (furO s=if oneOf starts s=true then some s else none):=HFU.out
  clear HFU
  go_wp2_with fail
  refine (oneOf_any b A n c p l s starts _ HR1.out HRow1.out HP.out).mono ?_
  rintro e w2 ⟨rfl,hR2,hM2⟩
  have HM2:=Lib.hid (HM1.out.trans hM2)
  have HR2:=Lib.hid hR2
  clear hR2 hM2
  generalize oneOf starts s=x at HFU2
  go_wp2
  go_ret
  rw [HFU2.out]
  cases x with
  | true=>exact ⟨HM2.out,rfl,p,HP.out,HR2.out⟩
  | false=>exact ⟨HM2.out,rfl,HR2.out⟩
end Go.Proofs.YtgfbflnhjpbceaaGreatDoor.Range
namespace Go.Proofs.YtgfbflnhjpbceaaGreatDoor.Span
open Go.RowKit Num Ident Semver Prec

theorem sp_at (l:List RSp) (i:Nat):(l.map RSp.sp).getD i default=(l.getD i default).sp:=by
 by_cases h:i<l.length
 ·simp [List.getD,List.getElem?_eq_getElem h]
 ·simp [List.getD,List.getElem?_eq_none (Nat.le_of_not_lt h)]; rfl
def SpAt (w:World) (b o:Nat) (s:RSp):Prop:=∀ i v,s.vals[i]?=some v→w.cell? ⟨b,o+i,none⟩=some v
theorem SpAt.kept {w w':World} {b o:Nat} {s:RSp} (h:SpAt w b o s) (hb:Below w.heap.size w w') (hlt:b<w.heap.size):SpAt w' b o s:=fun i v hv=>(hb.cell (p:=⟨b,o+i,none⟩) hlt).trans (h i v hv)
theorem SpAt.cells {w:World} {b o:Nat} {s:RSp} (h:SpAt w b o s):w.cell? ⟨b,o,none⟩=some (.int .i64 s.lo.kind)∧w.cell? ⟨b,o+1,none⟩=some (.int .u64 s.lo.v.a)∧w.cell? ⟨b,o+2,none⟩=some (.int .u64 s.lo.v.b)∧w.cell? ⟨b,o+3,none⟩=some (.int .u64 s.lo.v.c)∧w.cell? ⟨b,o+4,none⟩=some (.slice s.lo.A s.lo.v.pre.length s.lo.c)∧w.cell? ⟨b,o+5,none⟩=some (.slice s.lo.B s.lo.v.build.length s.lo.d)∧w.cell? ⟨b,o+6,none⟩=some (.int .i64 s.hi.kind)∧w.cell? ⟨b,o+7,none⟩=some (.int .u64 s.hi.v.a)∧w.cell? ⟨b,o+8,none⟩=some (.int .u64 s.hi.v.b)∧w.cell? ⟨b,o+9,none⟩=some (.int .u64 s.hi.v.c)∧w.cell? ⟨b,o+10,none⟩=some (.slice s.hi.A s.hi.v.pre.length s.hi.c)∧w.cell? ⟨b,o+11,none⟩=some (.slice s.hi.B s.hi.v.build.length s.hi.d) :=
 ⟨h 0 _ rfl,h 1 _ rfl,h 2 _ rfl,h 3 _ rfl,h 4 _ rfl,h 5 _ rfl,h 6 _ rfl,h 7 _ rfl,h 8 _ rfl,h 9 _ rfl,h 10 _ rfl,h 11 _ rfl⟩
end Go.Proofs.YtgfbflnhjpbceaaGreatDoor.Span
namespace Go.Proofs.YtgfbflnhjpbceaaGreatDoor.Span
open Go.RowKit Num Ident Semver Prec

theorem good_short (pre:Bool):∀ (xs:List (List UInt8)) (i:Nat),goodFrom pre xs i=true→∀ x ∈ xs,x.length≤255
 | [],_,_,x,hx=>by cases hx
 | y :: r,i,h,x,hx=>by
  rw [goodFrom] at h
  simp only [Bool.and_eq_true,beq_iff_eq] at h
  rcases List.mem_cons.1 hx with rfl | hx
  ·exact (fault_pos h.1.1).2.1
  ·exact good_short pre r (i+1) h.2 x hx
theorem right_short {c:Cut} (h:right c=true):∀ x ∈ c.v.pre,x.length≤1000:=by
 by_cases h1:c.kind=0∨c.kind=3
 ·rw [right_ends h1] at h
  rw [sameV_none h]; intro x hx; cases hx
 ·by_cases h2:c.kind=1∨c.kind=2
  ·rw [right_ver h2,Bool.and_eq_true] at h
   have hg:=h.1
   unfold goodV at hg
   rw [Bool.and_eq_true,Bool.and_eq_true] at hg
   intro x hx
   exact Nat.le_trans (good_short true c.v.pre 0 hg.2.1 x hx) (by omega)
  ·rw [right_none h1 h2] at h; cases h
theorem cmpC_no {a b:Cut} (h:¬ (right a=true∧right b=true∧ofVer a=true∧ofVer b=true)):cmpC a b=ordI a.kind b.kind:=by
 unfold cmpC stand
 by_cases h1:right a=true∧right b=true
 ·rw [if_pos h1,if_neg (fun k=>h ⟨h1.1,h1.2,k.1,k.2.1⟩)]
 ·rw [if_neg h1]
theorem cmpC_v0 {a b:Cut} (h:cmpV a.v b.v=0):cmpC a b=ordI a.kind b.kind:=by
 unfold cmpC stand
 by_cases h1:right a=true∧right b=true
 ·rw [if_pos h1,if_neg (fun k=>k.2.2 h)]
 ·rw [if_neg h1]
theorem cmpC_v {a b:Cut} (h:right a=true∧right b=true∧ofVer a=true∧ofVer b=true) (h0:cmpV a.v b.v≠0):cmpC a b=cmpV a.v b.v:=by
 unfold cmpC stand
 rw [if_pos ⟨h.1,h.2.1⟩,if_pos ⟨h.2.2.1,h.2.2.2,h0⟩]

theorem refCompareC_any (r s:RCut) (w:World) (h1:Lies w r) (h2:Lies w s) :
  Calls Tryz.prog 32 #[.agg #[r.kind,r.v.a,r.v.b,r.v.c,.slice r.A r.v.pre.length r.c,.slice r.B r.v.build.length r.d],.agg #[s.kind,s.v.a,s.v.b,s.v.c,.slice s.A s.v.pre.length s.c,.slice s.B s.v.build.length s.d]] w fun e w'=>e=.returned (.int .i64 (cmpC r.cut s.cut))∧Below w.heap.size w w':=by
 have B0:Hid (Below w.heap.size w ((w.alloc r).alloc s)):=((Below.refl _ _).alloc (Nat.le_refl _) _).alloc (by simp) _
 have L0:=Lib.hid (h1.kept B0.out)
 have M0:=Lib.hid (h2.kept B0.out)
 have K0:Hid (At6B ((w.alloc r).alloc s) w.heap.size r.kind r.v.a r.v.b r.v.c (.slice r.A r.v.pre.length r.c) (.slice r.B r.v.build.length r.d)):=(At6B.new w _ _ _ _ _ _ _).kept ((Below.refl _ _).alloc (Nat.le_refl _) _) (by simp)
 have J0:Hid (At6B ((w.alloc r).alloc s) (w.heap.size+1) s.kind s.v.a s.v.b s.v.c (.slice s.A s.v.pre.length s.c) (.slice s.B s.v.build.length s.d)):=by
  have:=At6B.new (w.alloc r) 41 s.kind s.v.a s.v.b s.v.c (.slice s.A s.v.pre.length s.c) (.slice s.B s.v.build.length s.d)
  rw [size_alloc] at this; exact this
 clear h1 h2
 go_enter Tryz.func32,Tryz.ntmps32
 go_upto_region 1 with (fail)
 generalize ((w.alloc r).alloc s)=W at B0 L0 M0 K0 J0 ⊢
 obtain ⟨hz,_,x0,x1,x2,x3,x4,x5⟩:=K0.out
 obtain ⟨hy,_,y0,y1,y2,y3,y4,y5⟩:=J0.out
 go_wp2_with fail
 refine (refRight_any r _ L0.out).mono ?_
 rintro e w1 ⟨rfl,hb⟩
 have K1:=Lib.hid (K0.out.kept hb hz)
 have J1:=Lib.hid (J0.out.kept hb hy)
 have L1:=Lib.hid (L0.out.kept hb)
 have M1:=Lib.hid (M0.out.kept hb)
 have B1:=Lib.hid (B0.out.trans (hb.mono B0.out.size))
 clear hb hz hy x0 x1 x2 x3 x4 x5 y0 y1 y2 y3 y4 y5
 obtain ⟨hz,_,x0,x1,x2,x3,x4,x5⟩:=K1.out
 obtain ⟨hy,_,y0,y1,y2,y3,y4,y5⟩:=J1.out
 cases g1:right r.cut
 ·have HF:Hid (cmpC r.cut s.cut=ordI r.kind s.kind):=cmpC_no (by rw [g1]; rintro ⟨h,_⟩; cases h)
  clear g1
  rcases Int.lt_trichotomy r.kind s.kind with hk | hk | hk
  ·have HF2:=Lib.hid (HF.out.trans (ordI_lt hk))
   go_wp2
   go_ret
   exact ⟨by rw [HF2.out]; rfl,B1.out⟩
  ·have HF2:=Lib.hid (HF.out.trans (ordI_eq hk))
   have n1:decide (r.kind<s.kind)=false:=by simp; omega
   have n2:decide (s.kind<r.kind)=false:=by simp; omega
   clear hk
   go_wp2
   go_ret
   exact ⟨by rw [HF2.out]; rfl,B1.out⟩
  ·have HF2:=Lib.hid (HF.out.trans (ordI_gt hk))
   have n1:decide (r.kind<s.kind)=false:=by simp; omega
   go_wp2
   go_ret
   exact ⟨by rw [HF2.out]; rfl,B1.out⟩
 have G1:=Lib.hid g1
 clear g1
 go_wp2_with fail
 refine (refRight_any s _ M1.out).mono ?_
 rintro e w2 ⟨rfl,hb⟩
 have K2:=Lib.hid (K1.out.kept hb hz)
 have J2:=Lib.hid (J1.out.kept hb hy)
 have L2:=Lib.hid (L1.out.kept hb)
 have M2:=Lib.hid (M1.out.kept hb)
 have B2:=Lib.hid (B1.out.trans (hb.mono B1.out.size))
 clear hb hz hy x0 x1 x2 x3 x4 x5 y0 y1 y2 y3 y4 y5
 obtain ⟨hz,_,x0,x1,x2,x3,x4,x5⟩:=K2.out
 obtain ⟨hy,_,y0,y1,y2,y3,y4,y5⟩:=J2.out
 cases g2:right s.cut
 ·have HF:Hid (cmpC r.cut s.cut=ordI r.kind s.kind):=cmpC_no (by rw [g2]; rintro ⟨_,h,_⟩; cases h)
  clear g2
  rcases Int.lt_trichotomy r.kind s.kind with hk | hk | hk
  ·have HF2:=Lib.hid (HF.out.trans (ordI_lt hk))
   go_wp2
   go_ret
   exact ⟨by rw [HF2.out]; rfl,B2.out⟩
  ·have HF2:=Lib.hid (HF.out.trans (ordI_eq hk))
   have n1:decide (r.kind<s.kind)=false:=by simp; omega
   have n2:decide (s.kind<r.kind)=false:=by simp; omega
   clear hk
   go_wp2
   go_ret
   exact ⟨by rw [HF2.out]; rfl,B2.out⟩
  ·have HF2:=Lib.hid (HF.out.trans (ordI_gt hk))
   have n1:decide (r.kind<s.kind)=false:=by simp; omega
   go_wp2
   go_ret
   exact ⟨by rw [HF2.out]; rfl,B2.out⟩
 have G2:=Lib.hid g2
 clear g2
 by_cases o1:r.kind=1∨r.kind=2
 ·by_cases o2:s.kind=1∨s.kind=2
  ·have HO:Hid (right r.cut=true∧right s.cut=true∧ofVer r.cut=true∧ofVer s.cut=true):=⟨G1.out,G2.out,(ofVer_iff _).2 o1,(ofVer_iff _).2 o2⟩
   have hs1:(r.kind == 1)=true∨((r.kind == 1)=false∧(r.kind == 2)=true):=by
    rcases o1 with o1 | o1
    ·left; simp [o1]
    ·right; simp [o1]
   have hs2:(s.kind == 1)=true∨((s.kind == 1)=false∧(s.kind == 2)=true):=by
    rcases o2 with o2 | o2
    ·left; simp [o2]
    ·right; simp [o2]
   clear o1 o2
   rcases hs1 with p1 | ⟨p1,p1'⟩ <;> rcases hs2 with p2 | ⟨p2,p2'⟩
   all_goals
    go_wp2_with fail
    refine (Prec.refCompare_any r.v s.v _ _ _ _ _ _ _ _ _ L2.out.pre M2.out.pre L2.out.fpre.1 M2.out.fpre.1 (right_short G1.out) (right_short G2.out)).mono ?_
    rintro e w3 ⟨rfl,hb⟩
    have K3:=Lib.hid (K2.out.kept hb hz)
    have J3:=Lib.hid (J2.out.kept hb hy)
    have L3:=Lib.hid (L2.out.kept hb)
    have M3:=Lib.hid (M2.out.kept hb)
    have B3:=Lib.hid (B2.out.trans (hb.mono B2.out.size))
    clear hb hz hy x0 x1 x2 x3 x4 x5 y0 y1 y2 y3 y4 y5
    obtain ⟨hz,_,x0,x1,x2,x3,x4,x5⟩:=K3.out
    obtain ⟨hy,_,y0,y1,y2,y3,y4,y5⟩:=J3.out
    by_cases h0:cmpV r.v s.v=0
    ·have HF:Hid (cmpC r.cut s.cut=ordI r.kind s.kind):=cmpC_v0 h0
     rw [h0]
     clear h0
     rcases Int.lt_trichotomy r.kind s.kind with hk | hk | hk
     ·have HF2:=Lib.hid (HF.out.trans (ordI_lt hk))
      go_wp2
      go_ret
      exact ⟨by rw [HF2.out]; rfl,B3.out⟩
     ·have HF2:=Lib.hid (HF.out.trans (ordI_eq hk))
      have n1:decide (r.kind<s.kind)=false:=by simp; omega
      have n2:decide (s.kind<r.kind)=false:=by simp; omega
      clear hk
      go_wp2
      go_ret
      exact ⟨by rw [HF2.out]; rfl,B3.out⟩
     ·have HF2:=Lib.hid (HF.out.trans (ordI_gt hk))
      have n1:decide (r.kind<s.kind)=false:=by simp; omega
      go_wp2
      go_ret
      exact ⟨by rw [HF2.out]; rfl,B3.out⟩
    ·have HF:Hid (cmpC r.cut s.cut=cmpV r.v s.v):=cmpC_v HO.out h0
     generalize cmpV r.v s.v=cc at h0 HF ⊢
     have hn:(cc == 0)=false:=by simp [h0]
     have hn2:(cc != 0)=true:=by simp [h0]
     clear h0
     go_wp2
     go_ret
     exact ⟨by rw [HF.out]; rfl,B3.out⟩
  ·have HF:Hid (cmpC r.cut s.cut=ordI r.kind s.kind):=cmpC_no (by rintro ⟨_,_,_,h⟩; exact o2 ((ofVer_iff _).1 h))
   have hs1:(r.kind == 1)=true∨((r.kind == 1)=false∧(r.kind == 2)=true):=by
    rcases o1 with o1 | o1
    ·left; simp [o1]
    ·right; simp [o1]
   have p2:(s.kind == 1)=false:=by simp; omega
   have p2':(s.kind == 2)=false:=by simp; omega
   clear o1 o2
   rcases hs1 with p1 | ⟨p1,p1'⟩
   all_goals
    rcases Int.lt_trichotomy r.kind s.kind with hk | hk | hk
    ·have HF2:=Lib.hid (HF.out.trans (ordI_lt hk))
     go_wp2
     go_ret
     exact ⟨by rw [HF2.out]; rfl,B2.out⟩
    ·have HF2:=Lib.hid (HF.out.trans (ordI_eq hk))
     have n1:decide (r.kind<s.kind)=false:=by simp; omega
     have n2:decide (s.kind<r.kind)=false:=by simp; omega
     clear hk
     go_wp2
     go_ret
     exact ⟨by rw [HF2.out]; rfl,B2.out⟩
    ·have HF2:=Lib.hid (HF.out.trans (ordI_gt hk))
     have n1:decide (r.kind<s.kind)=false:=by simp; omega
     go_wp2
     go_ret
     exact ⟨by rw [HF2.out]; rfl,B2.out⟩
 ·have HF:Hid (cmpC r.cut s.cut=ordI r.kind s.kind):=cmpC_no (by rintro ⟨_,_,h,_⟩; exact o1 ((ofVer_iff _).1 h))
  have p1:(r.kind == 1)=false:=by simp; omega
  have p1':(r.kind == 2)=false:=by simp; omega
  clear o1
  rcases Int.lt_trichotomy r.kind s.kind with hk | hk | hk
  ·have HF2:=Lib.hid (HF.out.trans (ordI_lt hk))
   go_wp2
   go_ret
   exact ⟨by rw [HF2.out]; rfl,B2.out⟩
  ·have HF2:=Lib.hid (HF.out.trans (ordI_eq hk))
   have n1:decide (r.kind<s.kind)=false:=by simp; omega
   have n2:decide (s.kind<r.kind)=false:=by simp; omega
   clear hk
   go_wp2
   go_ret
   exact ⟨by rw [HF2.out]; rfl,B2.out⟩
  ·have HF2:=Lib.hid (HF.out.trans (ordI_gt hk))
   have n1:decide (r.kind<s.kind)=false:=by simp; omega
   go_wp2
   go_ret
   exact ⟨by rw [HF2.out]; rfl,B2.out⟩
end Go.Proofs.YtgfbflnhjpbceaaGreatDoor.Span
namespace Go.Proofs.YtgfbflnhjpbceaaGreatDoor.Span
open Go.RowKit Num Ident Semver Prec

theorem cuInfo:(Tryz.prog.info? 41).map (fun i=>(i.zero,i.size,i.bytes))=some (some (.agg #[.int .i64 0,.int .u64 0,.int .u64 0,.int .u64 0,.slice none 0 0,.slice none 0 0]),6,80):=by kernel_rfl
end Go.Proofs.YtgfbflnhjpbceaaGreatDoor.Span
namespace Go.Proofs.YtgfbflnhjpbceaaGreatDoor.Span
open Go.RowKit Num Ident Semver Prec

theorem same1_any (x y:RSp) (w:World) (h1:LiesS w x) (h2:LiesS w y) (e1:cmpC x.lo.cut y.lo.cut=0) (e2:cmpC x.hi.cut y.hi.cut=0) :
  Calls Tryz.prog 44 #[.agg #[x.lo.kind,x.lo.v.a,x.lo.v.b,x.lo.v.c,.slice x.lo.A x.lo.v.pre.length x.lo.c,.slice x.lo.B x.lo.v.build.length x.lo.d,x.hi.kind,x.hi.v.a,x.hi.v.b,x.hi.v.c,.slice x.hi.A x.hi.v.pre.length x.hi.c,.slice x.hi.B x.hi.v.build.length x.hi.d],.agg #[y.lo.kind,y.lo.v.a,y.lo.v.b,y.lo.v.c,.slice y.lo.A y.lo.v.pre.length y.lo.c,.slice y.lo.B y.lo.v.build.length y.lo.d,y.hi.kind,y.hi.v.a,y.hi.v.b,y.hi.v.c,.slice y.hi.A y.hi.v.pre.length y.hi.c,.slice y.hi.B y.hi.v.build.length y.hi.d]] w fun e w'=>e=.returned (.bool true)∧Below w.heap.size w w':=by
 have HBa:Hid (Below w.heap.size w ((w.alloc (x.lo,x.hi)).alloc (y.lo,y.hi))):=((Below.refl _ _).alloc (Nat.le_refl _) _).alloc (by simp) _
 have HL:=Lib.hid (h1.kept HBa.out)
 have HM:=Lib.hid (h2.kept HBa.out)
 have K0:Hid (At12B ((w.alloc (x.lo,x.hi)).alloc (y.lo,y.hi)) w.heap.size x.lo.kind x.lo.v.a x.lo.v.b x.lo.v.c (.slice x.lo.A x.lo.v.pre.length x.lo.c) (.slice x.lo.B x.lo.v.build.length x.lo.d) x.hi.kind x.hi.v.a x.hi.v.b x.hi.v.c (.slice x.hi.A x.hi.v.pre.length x.hi.c) (.slice x.hi.B x.hi.v.build.length x.hi.d)):=(At12B.new w _ _ _ _ _ _ _ _ _ _ _ _ _).kept ((Below.refl _ _).alloc (Nat.le_refl _) _) (by simp)
 have J0:Hid (At12B ((w.alloc (x.lo,x.hi)).alloc (y.lo,y.hi)) (w.heap.size+1) y.lo.kind y.lo.v.a y.lo.v.b y.lo.v.c (.slice y.lo.A y.lo.v.pre.length y.lo.c) (.slice y.lo.B y.lo.v.build.length y.lo.d) y.hi.kind y.hi.v.a y.hi.v.b y.hi.v.c (.slice y.hi.A y.hi.v.pre.length y.hi.c) (.slice y.hi.B y.hi.v.build.length y.hi.d)):=by
  have:=At12B.new (w.alloc (x.lo,x.hi)) 43 y.lo.kind y.lo.v.a y.lo.v.b y.lo.v.c (.slice y.lo.A y.lo.v.pre.length y.lo.c) (.slice y.lo.B y.lo.v.build.length y.lo.d) y.hi.kind y.hi.v.a y.hi.v.b y.hi.v.c (.slice y.hi.A y.hi.v.pre.length y.hi.c) (.slice y.hi.B y.hi.v.build.length y.hi.d)
  rw [size_alloc] at this; exact this
 have E1:=Lib.hid e1
 have E2:=Lib.hid e2
 clear h1 h2 e1 e2
 go_enter Tryz.func44,Tryz.ntmps44
 go_upto_region 1 with (fail)
 generalize ((w.alloc (x.lo,x.hi)).alloc (y.lo,y.hi))=W at HBa HL HM K0 J0 ⊢
 obtain ⟨hz,_,x0,x1,x2,x3,x4,x5,x6,x7,x8,x9,x10,x11⟩:=K0.out
 obtain ⟨hy,_,y0,y1,y2,y3,y4,y5,y6,y7,y8,y9,y10,y11⟩:=J0.out
 go_wp2_with fail
 refine (compareC_any x.lo y.lo _ HL.out.lo HM.out.lo).mono ?_
 rintro e w1 ⟨he,hb1⟩
 rw [E1.out] at he
 subst he
 have K1:=Lib.hid (K0.out.kept hb1 hz)
 have J1:=Lib.hid (J0.out.kept hb1 hy)
 have L1:=Lib.hid (HL.out.kept hb1)
 have M1:=Lib.hid (HM.out.kept hb1)
 have B1:=Lib.hid (HBa.out.trans (hb1.mono HBa.out.size))
 clear hb1 hz hy
 clear x0 x1 x2 x3 x4 x5 x6 x7 x8 x9 x10 x11 y0 y1 y2 y3 y4 y5 y6 y7 y8 y9 y10 y11
 obtain ⟨hz1,_,x0,x1,x2,x3,x4,x5,x6,x7,x8,x9,x10,x11⟩:=K1.out
 obtain ⟨hy1,_,y0,y1,y2,y3,y4,y5,y6,y7,y8,y9,y10,y11⟩:=J1.out
 go_wp2_with fail
 refine (compareC_any x.hi y.hi _ L1.out.hi M1.out.hi).mono ?_
 rintro e w2 ⟨he,hb2⟩
 rw [E2.out] at he
 subst he
 have B2:=Lib.hid (B1.out.trans (hb2.mono B1.out.size))
 clear hb2 hz1 hy1
 clear x0 x1 x2 x3 x4 x5 x6 x7 x8 x9 x10 x11 y0 y1 y2 y3 y4 y5 y6 y7 y8 y9 y10 y11
 go_wp2
 go_ret
 exact ⟨rfl,B2.out⟩

def EqJ (w:World) (n:Nat) (i:Value) (W:World):Prop:=∃ k:Nat,k≤n∧i=.int .i64 k∧Below w.heap.size w W
theorem equal_any (A:Option Addr) (n ca:Nat) (l:List RSp) (B:Option Addr) (cb:Nat) (r:List RSp) (w:World) (hr:SpRow w A n l) (hr2:SpRow w B n r) (hn:n≤100000) (he:Zero l r n) :
  Calls Tryz.prog 43 #[.slice A n ca,.slice B n cb,.func (.func 44) #[] #[]] w fun e w'=>e=.returned (.bool true)∧Below w.heap.size w w':=by
 have HR:=Lib.hid hr
 have HR2:=Lib.hid hr2
 have HE:=Lib.hid he
 clear hr hr2 he
 go_enter Tryz.func43,Tryz.ntmps43
 go_wp2
 go_loopw [17] (fun i W=>EqJ w n i W) (fun i _=>n - (intOf i).toNat)
 case atStart=>exact ⟨0,Nat.zero_le _,rfl,Below.refl _ _⟩
 case round =>
  obtain ⟨k,hk,rfl,hbel⟩:=hrel
  have HB:=Lib.hid hbel
  have hsz:=hbel.size
  clear hbel
  by_cases hlt:k<n
  ·obtain ⟨b,o,rfl,hb,hc⟩:=(HR.out.kept HB.out).2.2 (by omega)
   obtain ⟨b2,o2,rfl,hb2,hc2⟩:=(HR2.out.kept HB.out).2.2 (by omega)
   obtain ⟨x0,x1,x2,x3,x4,x5,x6,x7,x8,x9,x10,x11⟩:=SpRow.cells hc hlt
   have HC2:=Lib.hid (SpRow.cells hc2 hlt)
   have HS:=Lib.hid ((HR.out.lies hlt).kept HB.out)
   have HT:=Lib.hid ((HR2.out.lies hlt).kept HB.out)
   have HZ:=Lib.hid (HE.out k hlt)
   clear hc hc2
   generalize l.getD k default=s at x0 x1 x2 x3 x4 x5 x6 x7 x8 x9 x10 x11 HS HZ
   generalize r.getD k default=t at HC2 HT HZ
   have A1:Hid (Below wr.heap.size wr (wr.alloc (s.lo,s.hi))):=(Below.refl _ _).alloc (Nat.le_refl _) _
   have K1:Hid (At12B (wr.alloc (s.lo,s.hi)) wr.heap.size s.lo.kind s.lo.v.a s.lo.v.b s.lo.v.c (.slice s.lo.A s.lo.v.pre.length s.lo.c) (.slice s.lo.B s.lo.v.build.length s.lo.d) s.hi.kind s.hi.v.a s.hi.v.b s.hi.v.c (.slice s.hi.A s.hi.v.pre.length s.hi.c) (.slice s.hi.B s.hi.v.build.length s.hi.d)):=At12B.new wr _ _ _ _ _ _ _ _ _ _ _ _ _
   go_upto_region 6 with (fail)
   generalize (wr.alloc (s.lo,s.hi))=W1 at A1 K1 ⊢
   clear x0 x1 x2 x3 x4 x5 x6 x7 x8 x9 x10 x11
   have Y1:Hid (W1.cell? ⟨b2,o2+k * 12,none⟩=some (.int .i64 t.lo.kind)∧W1.cell? ⟨b2,o2+k * 12+1,none⟩=some (.int .u64 t.lo.v.a)∧W1.cell? ⟨b2,o2+k * 12+2,none⟩=some (.int .u64 t.lo.v.b)∧W1.cell? ⟨b2,o2+k * 12+3,none⟩=some (.int .u64 t.lo.v.c)∧W1.cell? ⟨b2,o2+k * 12+4,none⟩=some (.slice t.lo.A t.lo.v.pre.length t.lo.c)∧W1.cell? ⟨b2,o2+k * 12+5,none⟩=some (.slice t.lo.B t.lo.v.build.length t.lo.d)∧W1.cell? ⟨b2,o2+k * 12+6,none⟩=some (.int .i64 t.hi.kind)∧W1.cell? ⟨b2,o2+k * 12+7,none⟩=some (.int .u64 t.hi.v.a)∧W1.cell? ⟨b2,o2+k * 12+8,none⟩=some (.int .u64 t.hi.v.b)∧W1.cell? ⟨b2,o2+k * 12+9,none⟩=some (.int .u64 t.hi.v.c)∧W1.cell? ⟨b2,o2+k * 12+10,none⟩=some (.slice t.hi.A t.hi.v.pre.length t.hi.c)∧W1.cell? ⟨b2,o2+k * 12+11,none⟩=some (.slice t.hi.B t.hi.v.build.length t.hi.d)):=by
    obtain ⟨y0,y1,y2,y3,y4,y5,y6,y7,y8,y9,y10,y11⟩:=HC2.out
    exact ⟨(A1.out.cell (p:=⟨b2,o2+k * 12,none⟩) hb2).trans y0,(A1.out.cell (p:=⟨b2,o2+k * 12+1,none⟩) hb2).trans y1,(A1.out.cell (p:=⟨b2,o2+k * 12+2,none⟩) hb2).trans y2,(A1.out.cell (p:=⟨b2,o2+k * 12+3,none⟩) hb2).trans y3,(A1.out.cell (p:=⟨b2,o2+k * 12+4,none⟩) hb2).trans y4,(A1.out.cell (p:=⟨b2,o2+k * 12+5,none⟩) hb2).trans y5,(A1.out.cell (p:=⟨b2,o2+k * 12+6,none⟩) hb2).trans y6,(A1.out.cell (p:=⟨b2,o2+k * 12+7,none⟩) hb2).trans y7,(A1.out.cell (p:=⟨b2,o2+k * 12+8,none⟩) hb2).trans y8,(A1.out.cell (p:=⟨b2,o2+k * 12+9,none⟩) hb2).trans y9,(A1.out.cell (p:=⟨b2,o2+k * 12+10,none⟩) hb2).trans y10,(A1.out.cell (p:=⟨b2,o2+k * 12+11,none⟩) hb2).trans y11⟩
   obtain ⟨y0,y1,y2,y3,y4,y5,y6,y7,y8,y9,y10,y11⟩:=Y1.out
   have A2:Hid (Below W1.heap.size W1 (W1.alloc (t.lo,t.hi))):=(Below.refl _ _).alloc (Nat.le_refl _) _
   have J2:Hid (At12B (W1.alloc (t.lo,t.hi)) W1.heap.size t.lo.kind t.lo.v.a t.lo.v.b t.lo.v.c (.slice t.lo.A t.lo.v.pre.length t.lo.c) (.slice t.lo.B t.lo.v.build.length t.lo.d) t.hi.kind t.hi.v.a t.hi.v.b t.hi.v.c (.slice t.hi.A t.hi.v.pre.length t.hi.c) (.slice t.hi.B t.hi.v.build.length t.hi.d)):=At12B.new W1 _ _ _ _ _ _ _ _ _ _ _ _ _
   have K2:=Lib.hid (K1.out.kept A2.out K1.out.1)
   go_upto_region 7 with (fail)
   generalize (W1.alloc (t.lo,t.hi))=W2 at A2 J2 K2 ⊢
   clear y0 y1 y2 y3 y4 y5 y6 y7 y8 y9 y10 y11
   obtain ⟨hz1,_,x0,x1,x2,x3,x4,x5,x6,x7,x8,x9,x10,x11⟩:=K2.out
   obtain ⟨hz2,_,y0,y1,y2,y3,y4,y5,y6,y7,y8,y9,y10,y11⟩:=J2.out
   have B2:=Lib.hid ((HB.out.trans (A1.out.mono hsz)).trans (A2.out.mono (Nat.le_trans hsz A1.out.size)))
   go_wp2_with fail
   refine (same1_any s t _ ((HS.out.kept A1.out).kept A2.out) ((HT.out.kept A1.out).kept A2.out) HZ.out.1 HZ.out.2).mono ?_
   rintro e w3 ⟨rfl,hb3⟩
   have B3:=Lib.hid (B2.out.trans (hb3.mono B2.out.size))
   clear hb3 hz1 hz2 x0 x1 x2 x3 x4 x5 x6 x7 x8 x9 x10 x11 y0 y1 y2 y3 y4 y5 y6 y7 y8 y9 y10 y11
   go_wp2
   exact ⟨⟨k+1,by omega,by go_num,B3.out⟩,by simp [intOf]; omega⟩
  ·go_wp2
   go_ret
   exact ⟨rfl,HB.out⟩

theorem sameS_any (A:Option Addr) (n ca:Nat) (l:List RSp) (B:Option Addr) (cb:Nat) (r:List RSp) (w:World) (hr:SpRow w A n l) (hr2:SpRow w B n r) (hn:n≤100000) (he:Zero l r n) :
  Calls Tryz.prog 22 #[.slice A n ca,.slice B n cb] w fun e w'=>e=.returned (.bool true)∧Below w.heap.size w w':=by
 go_enter Tryz.func22,Tryz.ntmps22
 go_wp2_with fail
 refine (equal_any A n ca l B cb r _ hr hr2 hn he).mono ?_
 rintro e w1 ⟨rfl,hb1⟩
 clear hr hr2 he
 go_wp2
 go_ret
 exact ⟨rfl,hb1⟩
end Go.Proofs.YtgfbflnhjpbceaaGreatDoor.Span
