/-
  What the theorem of the last text needs of these: NmRefIn, MoPlain. Conditions: as each theorem states.
-/
import Derived.Test.YtgakcdcfblgagaaGreatDoorRoA1
import Derived.Test.YtgakcdcfblgagaaGreatDoorRoA6
import Derived.Test.YtgakcdcfblgagaaGreatDoorRoA8
import Derived.Test.YtgakcdcfblgagaaGreatDoorRoA12
import Derived.Test.YtgakcdcfblgagaaGreatDoorRoA13
import Derived.Test.YtgakcdcfblgagaaGreatDoorRoA17
import Derived.Test.YtgakcdcfblgagaaGreatDoorRoA18
import Derived.Test.YtgakcdcfblgagaaGreatDoorRoA23
import Derived.BigQuiet
set_option maxRecDepth 100000
set_option maxHeartbeats 25600000
namespace Go.Proofs.YtgakcdcfblgagaaGreatDoor.Nrm
open Go.RowKit Num Ident Semver Prec Span
open Range (Rng noRng goodR goodL fits wt wtL RV RAt KeepS LtB LenOk wt_mem CellsAt)
theorem good_ids {v:Ver} (h:goodV v=true):∀ x ∈ v.pre,x.length≤1000:=by
 unfold goodV at h
 rw [Bool.and_eq_true,Bool.and_eq_true] at h
 exact fun x hx=>Nat.le_trans ((goodFrom_bound v.pre 0 h.2.1).2 x hx) (by omega)
theorem anyV_no {l:List Rng} {v:Ver} (h:∀ j,j<l.length→inV (l.getD j noRng) v=false):anyV l v=false:=by
 rw [Bool.eq_false_iff]
 intro k
 obtain ⟨x,hx,hi⟩:=anyV_iff.1 k
 obtain ⟨j,hj,rfl⟩:=List.getElem_of_mem hx
 have:=h j hj
 rw [List.getD_eq_getElem?_getD,List.getElem?_eq_getElem hj] at this
 rw [show (some l[j]).getD noRng=l[j] from rfl,hi] at this
 cases this
theorem allV_yes {l:List Rng} {v:Ver} (h:∀ j,j<l.length→inV (l.getD j noRng) v=true):allV l v=true:=by
 rw [allV_iff]
 intro x hx
 obtain ⟨j,hj,rfl⟩:=List.getElem_of_mem hx
 have:=h j hj
 rw [List.getD_eq_getElem?_getD,List.getElem?_eq_getElem hj] at this
 exact this
theorem endRow_len {a b c i:Nat} {e:Ver} (h:endV a b c i=some e):e.pre.length≤1:=by
 have key:∀ x y z,(firstV x y z).pre.length≤1:=fun _ _ _=>Nat.le_refl _
 unfold endV at h
 split at h
 ·split at h
  ·cases h
  ·injection h with h; subst h; exact key _ _ _
 ·split at h
  ·split at h
   ·cases h
   ·injection h with h; subst h; exact key _ _ _
  ·split at h
   ·cases h
   ·injection h with h; subst h; exact key _ _ _
theorem get_mem {l:List Rng} {j:Nat} (h:j<l.length):l.getD j noRng ∈ l:=by
 rw [List.getD_eq_getElem?_getD,List.getElem?_eq_getElem h]; exact List.getElem_mem _
theorem allV_no {l:List Rng} {v:Ver} {j:Nat} (hj:j<l.length) (h:inV (l.getD j noRng) v=false):allV l v=false:=by
 rw [Bool.eq_false_iff]
 intro k
 have:=allV_iff.1 k _ (get_mem hj)
 rw [h] at this; cases this
theorem anyV_some {l:List Rng} {v:Ver} {j:Nat} (hj:j<l.length) (h:inV (l.getD j noRng) v=true):anyV l v=true:=anyV_iff.2 ⟨_,get_mem hj,h⟩
theorem rv_start (w:World) (x:RV) (v:Ver) (A:Option Addr) (c:Nat) (E:Option Addr) (d:Nat):∃ W,W=((w.alloc x).alloc (v,A,c,E,d))∧Hid (Below w.heap.size w W)∧Hid (RAt W w.heap.size x)∧Hid (At5 W (w.heap.size+1) v.a v.b v.c (.slice A v.pre.length c) (.slice E v.build.length d)):=by
 refine ⟨_,rfl,((Below.refl _ _).alloc (Nat.le_refl _) _).alloc (by simp) _,(RAt.new w 65 x).kept ((Below.refl _ _).alloc (Nat.le_refl _) _) (by simp),?_⟩
 have h:=At5.new (w.alloc x) 37 v.a v.b v.c (.slice A v.pre.length c) (.slice E v.build.length d)
 rw [size_alloc] at h; exact h
def InAt (v:Ver) (A:Option Addr) (c:Nat) (E:Option Addr) (d:Nat) (m:Nat):Prop:=∀ (r:Rng) (x:RV) (B q:Nat) (w:World),wt r≤m→LenOk r→Range.Lies w (LtB B) r x→B≤w.heap.size→goodR r q=true→SRow w A v.pre.length v.pre→SRow w E v.build.length v.build →
  Calls Tryz.prog 70 #[x.agg,.agg #[v.a,v.b,v.c,.slice A v.pre.length c,.slice E v.build.length d]] w fun e w'=>e=.returned (.bool (inV r v))∧Below w.heap.size w w'
theorem in_step (v:Ver) (A:Option Addr) (c:Nat) (E:Option Addr) (d:Nat) (hp:v.pre.length≤maxLen) (hids:∀ x ∈ v.pre,x.length≤1000) (m:Nat) (ih:InAt v A c E d m):InAt v A c E d (m+1):=by
 intro r x B q w hm hlo hx hB hg s1 s2
 have IH:=Lib.hid ih
 have HS1:=Lib.hid s1
 have HS2:=Lib.hid s2
 have HP:=Lib.hid hp
 have HI:=Lib.hid hids
 have hs:=hx.says
 have HFit:=Lib.hid hs.fit
 have HLO:=Lib.hid hlo
 have hxn:x.n≤9223372036854775807:=by obtain ⟨f,hln,_,_⟩:=hs.subs; rw [← hln]; exact hlo.here
 clear ih s1 s2 hp hids hlo
 obtain ⟨hd,hgl,hln,hrk,hk⟩:=Range.right_at hx hg
 have HE:=Lib.hid (rng_eq hx)
 obtain ⟨W,hW,HB,HRA,HVA⟩:=rv_start w x v A c E d
 have HL:=Lib.hid (hx.keep (KeepS.of_below (S:=LtB B) HB.out))
 have HGL:=Lib.hid hgl
 have HLN:=Lib.hid hln
 have HXI:Hid (∀ y ∈ x.v.pre,y.length≤1000):=by
  rcases hk with ⟨_,_,h3,_⟩ | ⟨h3,_⟩
  ·exact good_ids h3
  ·rw [h3]; exact fun y hy=>by cases hy
 have hwl:wtL r.subs≤m:=by rw [Range.wt_eq] at hm; omega
 clear hs hx hg hgl
 unfold RV.agg
 go_enter Tryz.func70,Tryz.ntmps70
 go_upto_region 1 with (fail)
 rw [← hW]
 clear hW
 obtain ⟨y1,y2,c0,c1,c2,c3,c4,c5,c6⟩:=HRA.out
 obtain ⟨v1,v2,g0,g1,g2,g3,g4⟩:=HVA.out
 go_wp2_with fail
 refine (refCompare_any v x.v A E x.A x.B c d x.c x.d W (HS1.out.kept HB.out) HL.out.says.pre HP.out HFit.out.pre HI.out HXI.out).mono ?_
 rintro e W2 ⟨rfl,hb⟩
 have HB2:=Lib.hid (HB.out.trans (hb.mono HB.out.size))
 have HR2:=Lib.hid (HRA.out.kept hb HRA.out.1)
 have HV2:=Lib.hid (HVA.out.kept hb HVA.out.1)
 have HL2:=Lib.hid (HL.out.keep (KeepS.of_below (S:=LtB B) hb))
 have hB2:B≤W2.heap.size:=Nat.le_trans hB HB2.out.size
 clear hb y1 y2 c0 c1 c2 c3 c4 c5 c6 v1 v2 g0 g1 g2 g3 g4 HRA HVA HL HB
 have hkk:(1≤x.kind∧x.kind≤8∧goodV x.v=true∧x.n=0)∨x.kind=0∧x.n=0∨x.kind=9∨x.kind=10∨x.kind=11∧x.n=1:=by
  rcases hk with h | ⟨_,h | ⟨h1 | h1,h2⟩ | h⟩
  ·exact .inl h
  ·exact .inr (.inl h)
  ·exact .inr (.inr (.inl h1))
  ·exact .inr (.inr (.inr (.inl h1)))
  ·exact .inr (.inr (.inr (.inr h)))
 clear hk
 rcases hkk with ⟨h1,h8,hgv,hn⟩ | ⟨hK,hn⟩ | hK | hK | ⟨hK,hn⟩
 ·rcases (show x.kind=1∨x.kind=2∨x.kind=3∨x.kind=4∨x.kind=5∨x.kind=6∨x.kind=7∨x.kind=8 by omega) with hK | hK | hK | hK | hK | hK | hK | hK
  ·have HK:=Lib.hid hK
   have HE2:Hid (r=.mk 1 x.v r.subs):=by have:=HE.out; rw [hK] at this; exact this
   clear hK
   have q1:(x.kind == 1)=true:=by rw [HK.out]; rfl
   have HR:Hid (inV r v=decide (0≤cmpV v x.v)):=by unfold Hid; rw [HE2.out,inV_eq]; rfl
   generalize cmpV v x.v=n at HR ⊢
   obtain ⟨y1,y2,c0,c1,c2,c3,c4,c5,c6⟩:=HR2.out
   obtain ⟨v1,v2,g0,g1,g2,g3,g4⟩:=HV2.out
   go_wp2
   go_ret
   exact ⟨by rw [HR.out]; rfl,HB2.out⟩
  ·have HK:=Lib.hid hK
   have HE2:Hid (r=.mk 2 x.v r.subs):=by have:=HE.out; rw [hK] at this; exact this
   clear hK
   have q1:(x.kind == 1)=false:=by rw [HK.out]; rfl
   have q2:(x.kind == 2)=true:=by rw [HK.out]; rfl
   have HR:Hid (inV r v=decide (0<cmpV v x.v)):=by unfold Hid; rw [HE2.out,inV_eq]; rfl
   generalize cmpV v x.v=n at HR ⊢
   obtain ⟨y1,y2,c0,c1,c2,c3,c4,c5,c6⟩:=HR2.out
   obtain ⟨v1,v2,g0,g1,g2,g3,g4⟩:=HV2.out
   go_wp2
   go_ret
   exact ⟨by rw [HR.out]; rfl,HB2.out⟩
  ·have HK:=Lib.hid hK
   have HE2:Hid (r=.mk 3 x.v r.subs):=by have:=HE.out; rw [hK] at this; exact this
   clear hK
   have q1:(x.kind == 1)=false:=by rw [HK.out]; rfl
   have q2:(x.kind == 2)=false:=by rw [HK.out]; rfl
   have q3:(x.kind == 3)=true:=by rw [HK.out]; rfl
   have HR:Hid (inV r v=decide (cmpV v x.v≤0)):=by unfold Hid; rw [HE2.out,inV_eq]; rfl
   generalize cmpV v x.v=n at HR ⊢
   obtain ⟨y1,y2,c0,c1,c2,c3,c4,c5,c6⟩:=HR2.out
   obtain ⟨v1,v2,g0,g1,g2,g3,g4⟩:=HV2.out
   go_wp2
   go_ret
   exact ⟨by rw [HR.out]; rfl,HB2.out⟩
  ·have HK:=Lib.hid hK
   have HE2:Hid (r=.mk 4 x.v r.subs):=by have:=HE.out; rw [hK] at this; exact this
   clear hK
   have q1:(x.kind == 1)=false:=by rw [HK.out]; rfl
   have q2:(x.kind == 2)=false:=by rw [HK.out]; rfl
   have q3:(x.kind == 3)=false:=by rw [HK.out]; rfl
   have q4:(x.kind == 4)=true:=by rw [HK.out]; rfl
   have HR:Hid (inV r v=decide (cmpV v x.v<0)):=by unfold Hid; rw [HE2.out,inV_eq]; rfl
   generalize cmpV v x.v=n at HR ⊢
   obtain ⟨y1,y2,c0,c1,c2,c3,c4,c5,c6⟩:=HR2.out
   obtain ⟨v1,v2,g0,g1,g2,g3,g4⟩:=HV2.out
   go_wp2
   go_ret
   exact ⟨by rw [HR.out]; rfl,HB2.out⟩
  ·have HK:=Lib.hid hK
   have HE2:Hid (r=.mk 5 x.v r.subs):=by have:=HE.out; rw [hK] at this; exact this
   clear hK
   have q1:(x.kind == 1)=false:=by rw [HK.out]; rfl
   have q2:(x.kind == 2)=false:=by rw [HK.out]; rfl
   have q3:(x.kind == 3)=false:=by rw [HK.out]; rfl
   have q4:(x.kind == 4)=false:=by rw [HK.out]; rfl
   have q5:(x.kind == 5)=true:=by rw [HK.out]; rfl
   have HR:Hid (inV r v=(cmpV v x.v == 0)):=by unfold Hid; rw [HE2.out,inV_eq]; rfl
   generalize cmpV v x.v=n at HR ⊢
   obtain ⟨y1,y2,c0,c1,c2,c3,c4,c5,c6⟩:=HR2.out
   obtain ⟨v1,v2,g0,g1,g2,g3,g4⟩:=HV2.out
   go_wp2
   go_ret
   exact ⟨by rw [HR.out]; rfl,HB2.out⟩
  ·have HK:=Lib.hid hK
   have HE2:Hid (r=.mk 6 x.v r.subs):=by have:=HE.out; rw [hK] at this; exact this
   clear hK
   have q1:(x.kind == 1)=false:=by rw [HK.out]; rfl
   have q2:(x.kind == 2)=false:=by rw [HK.out]; rfl
   have q3:(x.kind == 3)=false:=by rw [HK.out]; rfl
   have q4:(x.kind == 4)=false:=by rw [HK.out]; rfl
   have q5:(x.kind == 5)=false:=by rw [HK.out]; rfl
   have q6:(x.kind == 6)=true:=by rw [HK.out]; rfl
   have HR:Hid (inV r v=(cmpV v x.v != 0)):=by unfold Hid; rw [HE2.out,inV_eq]; exact decide_not
   generalize cmpV v x.v=n at HR ⊢
   obtain ⟨y1,y2,c0,c1,c2,c3,c4,c5,c6⟩:=HR2.out
   obtain ⟨v1,v2,g0,g1,g2,g3,g4⟩:=HV2.out
   go_wp2
   go_ret
   exact ⟨by rw [HR.out]; rfl,HB2.out⟩
  ·have HK:=Lib.hid hK
   have HE2:Hid (r=.mk 7 x.v r.subs):=by have:=HE.out; rw [hK] at this; exact this
   clear hK
   have q1:(x.kind == 1)=false:=by rw [HK.out]; rfl
   have q2:(x.kind == 2)=false:=by rw [HK.out]; rfl
   have q3:(x.kind == 3)=false:=by rw [HK.out]; rfl
   have q4:(x.kind == 4)=false:=by rw [HK.out]; rfl
   have q5:(x.kind == 5)=false:=by rw [HK.out]; rfl
   have q6:(x.kind == 6)=false:=by rw [HK.out]; rfl
   have q7:(x.kind == 7)=true:=by rw [HK.out]; rfl
   have HR:Hid (inV r v=(decide (0≤cmpV v x.v) && hereV (caretV x.v) v)):=by unfold Hid; rw [HE2.out,inV_eq]; rfl
   have HEG:Hid (∀ e,caretV x.v=some e→∀ y ∈ e.pre,y.length≤1000):=fun e he=>good_ids (end_good hgv he).1
   have HEL:Hid (∀ e,caretV x.v=some e→e.pre.length≤maxLen):=fun e he=>Nat.le_trans (endRow_len he) (by decide)
   generalize cmpV v x.v=n at HR ⊢
   obtain ⟨y1,y2,c0,c1,c2,c3,c4,c5,c6⟩:=HR2.out
   obtain ⟨v1,v2,g0,g1,g2,g3,g4⟩:=HV2.out
   go_wp2_with fail
   refine (refCaret_any x.v x.A x.c x.B x.d W2).mono ?_
   rintro e W3 ⟨Q,qc,rfl,hrow,hbu,hb⟩
   have HQ:=Lib.hid hrow
   have HB3:=Lib.hid (HB2.out.trans (hb.mono HB2.out.size))
   have HV3:=Lib.hid (HV2.out.kept hb HV2.out.1)
   clear hb hrow y1 y2 c0 c1 c2 c3 c4 c5 c6 v1 v2 g0 g1 g2 g3 g4
   generalize caretV x.v=oe at HR HEG HEL HQ hbu ⊢
   cases oe with
   | none =>
    by_cases h0:0≤n
    ·go_wp2
     go_ret
     exact ⟨by rw [HR.out,decide_eq_true h0]; rfl,HB3.out.alloc HB3.out.size _⟩
    ·go_wp2
     go_ret
     exact ⟨by rw [HR.out,decide_eq_false (p:=0≤n) (by omega)]; rfl,HB3.out.alloc HB3.out.size _⟩
   | some u =>
    obtain ⟨ua,ub,uc,up,ul⟩:=u
    obtain rfl:ul=[]:=hbu
    simp only [show ∀ u,verOf (some u)=u from fun _=>rfl] at HQ ⊢
    by_cases h0:0≤n
    ·go_upto_region 17 with (fail)
     have HB4:Hid (Below w.heap.size w (W3.alloc (.cells #[.int .u64 ua,.int .u64 ub,.int .u64 uc,.slice Q up.length qc,.slice none 0 0] 37))):=HB3.out.alloc HB3.out.size _
     have HV4:=Lib.hid (HV3.out.kept ((Below.refl _ _).alloc (Nat.le_refl _) (.cells #[.int .u64 ua,.int .u64 ub,.int .u64 uc,.slice Q up.length qc,.slice none 0 0] 37)) HV3.out.1)
     have HU:=Lib.hid (At5.new W3 37 (.int .u64 ua) (.int .u64 ub) (.int .u64 uc) (.slice Q up.length qc) (.slice none 0 0))
     have HQ4:=Lib.hid (HQ.out.kept ((Below.refl _ _).alloc (Nat.le_refl _) (.cells #[.int .u64 ua,.int .u64 ub,.int .u64 uc,.slice Q up.length qc,.slice none 0 0] 37)))
     have hul:up.length≤maxLen:=HEL.out ⟨ua,ub,uc,up,[]⟩ rfl
     obtain ⟨gu,hgu⟩:∃ g,W3.heap.size=g:=⟨_,rfl⟩
     generalize W3.alloc (.cells #[.int .u64 ua,.int .u64 ub,.int .u64 uc,.slice Q up.length qc,.slice none 0 0] 37)=W4 at HB4 HV4 HU HQ4 ⊢
     rw [hgu] at HU ⊢
     clear hgu
     obtain ⟨v1,v2,g0,g1,g2,g3,g4⟩:=HV4.out
     obtain ⟨w1,w2,l0,l1,l2,l3,l4⟩:=HU.out
     go_wp2_with fail
     refine (refCompare_any v ⟨ua,ub,uc,up,[]⟩ A E Q none c d qc 0 W4 (HS1.out.kept HB4.out) HQ4.out HP.out hul HI.out (HEG.out _ rfl)).mono ?_
     rintro e W5 ⟨rfl,hb⟩
     have HB5:=Lib.hid (HB4.out.trans (hb.mono HB4.out.size))
     clear hb v1 v2 g0 g1 g2 g3 g4 w1 w2 l0 l1 l2 l3 l4
     go_wp2
     go_ret
     exact ⟨by rw [HR.out,decide_eq_true h0]; rfl,HB5.out⟩
    ·go_wp2
     go_ret
     exact ⟨by rw [HR.out,decide_eq_false (p:=0≤n) (by omega)]; rfl,HB3.out.alloc HB3.out.size _⟩
  ·have HK:=Lib.hid hK
   have HE2:Hid (r=.mk 8 x.v r.subs):=by have:=HE.out; rw [hK] at this; exact this
   clear hK
   have q1:(x.kind == 1)=false:=by rw [HK.out]; rfl
   have q2:(x.kind == 2)=false:=by rw [HK.out]; rfl
   have q3:(x.kind == 3)=false:=by rw [HK.out]; rfl
   have q4:(x.kind == 4)=false:=by rw [HK.out]; rfl
   have q5:(x.kind == 5)=false:=by rw [HK.out]; rfl
   have q6:(x.kind == 6)=false:=by rw [HK.out]; rfl
   have q7:(x.kind == 7)=false:=by rw [HK.out]; rfl
   have q8:(x.kind == 8)=true:=by rw [HK.out]; rfl
   have HR:Hid (inV r v=(decide (0≤cmpV v x.v) && hereV (tildeV x.v) v)):=by unfold Hid; rw [HE2.out,inV_eq]; rfl
   have HEG:Hid (∀ e,tildeV x.v=some e→∀ y ∈ e.pre,y.length≤1000):=fun e he=>good_ids (end_good hgv he).1
   have HEL:Hid (∀ e,tildeV x.v=some e→e.pre.length≤maxLen):=fun e he=>Nat.le_trans (endRow_len he) (by decide)
   generalize cmpV v x.v=n at HR ⊢
   obtain ⟨y1,y2,c0,c1,c2,c3,c4,c5,c6⟩:=HR2.out
   obtain ⟨v1,v2,g0,g1,g2,g3,g4⟩:=HV2.out
   go_wp2_with fail
   refine (refTilde_any x.v x.A x.c x.B x.d W2).mono ?_
   rintro e W3 ⟨Q,qc,rfl,hrow,hbu,hb⟩
   have HQ:=Lib.hid hrow
   have HB3:=Lib.hid (HB2.out.trans (hb.mono HB2.out.size))
   have HV3:=Lib.hid (HV2.out.kept hb HV2.out.1)
   clear hb hrow y1 y2 c0 c1 c2 c3 c4 c5 c6 v1 v2 g0 g1 g2 g3 g4
   generalize tildeV x.v=oe at HR HEG HEL HQ hbu ⊢
   cases oe with
   | none =>
    by_cases h0:0≤n
    ·go_wp2
     go_ret
     exact ⟨by rw [HR.out,decide_eq_true h0]; rfl,HB3.out.alloc HB3.out.size _⟩
    ·go_wp2
     go_ret
     exact ⟨by rw [HR.out,decide_eq_false (p:=0≤n) (by omega)]; rfl,HB3.out.alloc HB3.out.size _⟩
   | some u =>
    obtain ⟨ua,ub,uc,up,ul⟩:=u
    obtain rfl:ul=[]:=hbu
    simp only [show ∀ u,verOf (some u)=u from fun _=>rfl] at HQ ⊢
    by_cases h0:0≤n
    ·go_upto_region 20 with (fail)
     have HB4:Hid (Below w.heap.size w (W3.alloc (.cells #[.int .u64 ua,.int .u64 ub,.int .u64 uc,.slice Q up.length qc,.slice none 0 0] 37))):=HB3.out.alloc HB3.out.size _
     have HV4:=Lib.hid (HV3.out.kept ((Below.refl _ _).alloc (Nat.le_refl _) (.cells #[.int .u64 ua,.int .u64 ub,.int .u64 uc,.slice Q up.length qc,.slice none 0 0] 37)) HV3.out.1)
     have HU:=Lib.hid (At5.new W3 37 (.int .u64 ua) (.int .u64 ub) (.int .u64 uc) (.slice Q up.length qc) (.slice none 0 0))
     have HQ4:=Lib.hid (HQ.out.kept ((Below.refl _ _).alloc (Nat.le_refl _) (.cells #[.int .u64 ua,.int .u64 ub,.int .u64 uc,.slice Q up.length qc,.slice none 0 0] 37)))
     have hul:up.length≤maxLen:=HEL.out ⟨ua,ub,uc,up,[]⟩ rfl
     obtain ⟨gu,hgu⟩:∃ g,W3.heap.size=g:=⟨_,rfl⟩
     generalize W3.alloc (.cells #[.int .u64 ua,.int .u64 ub,.int .u64 uc,.slice Q up.length qc,.slice none 0 0] 37)=W4 at HB4 HV4 HU HQ4 ⊢
     rw [hgu] at HU ⊢
     clear hgu
     obtain ⟨v1,v2,g0,g1,g2,g3,g4⟩:=HV4.out
     obtain ⟨w1,w2,l0,l1,l2,l3,l4⟩:=HU.out
     go_wp2_with fail
     refine (refCompare_any v ⟨ua,ub,uc,up,[]⟩ A E Q none c d qc 0 W4 (HS1.out.kept HB4.out) HQ4.out HP.out hul HI.out (HEG.out _ rfl)).mono ?_
     rintro e W5 ⟨rfl,hb⟩
     have HB5:=Lib.hid (HB4.out.trans (hb.mono HB4.out.size))
     clear hb v1 v2 g0 g1 g2 g3 g4 w1 w2 l0 l1 l2 l3 l4
     go_wp2
     go_ret
     exact ⟨by rw [HR.out,decide_eq_true h0]; rfl,HB5.out⟩
    ·go_wp2
     go_ret
     exact ⟨by rw [HR.out,decide_eq_false (p:=0≤n) (by omega)]; rfl,HB3.out.alloc HB3.out.size _⟩
 ·have HK:=Lib.hid hK
  have HE2:Hid (r=.mk 0 x.v r.subs):=by have:=HE.out; rw [hK] at this; exact this
  clear hK
  have q1:(x.kind == 1)=false:=by rw [HK.out]; rfl
  have q2:(x.kind == 2)=false:=by rw [HK.out]; rfl
  have q3:(x.kind == 3)=false:=by rw [HK.out]; rfl
  have q4:(x.kind == 4)=false:=by rw [HK.out]; rfl
  have q5:(x.kind == 5)=false:=by rw [HK.out]; rfl
  have q6:(x.kind == 6)=false:=by rw [HK.out]; rfl
  have q7:(x.kind == 7)=false:=by rw [HK.out]; rfl
  have q8:(x.kind == 8)=false:=by rw [HK.out]; rfl
  have q9:(x.kind == 9)=false:=by rw [HK.out]; rfl
  have q10:(x.kind == 10)=false:=by rw [HK.out]; rfl
  have q11:(x.kind == 11)=false:=by rw [HK.out]; rfl
  have q12:(x.kind != 10)=true:=by rw [bne,q10]; rfl
  have HR:Hid (inV r v=true):=by unfold Hid; rw [HE2.out,inV_eq]; rfl
  have HN:=Lib.hid hn
  clear hn
  obtain ⟨y1,y2,c0,c1,c2,c3,c4,c5,c6⟩:=HR2.out
  obtain ⟨v1,v2,g0,g1,g2,g3,g4⟩:=HV2.out
  go_wp2
  go_loopw [10] (fun iv W'=>∃ k:Nat,k≤x.n∧iv=.int .i64 k∧Hid (Below W2.heap.size W2 W')) (fun iv _=>x.n - (intOf iv).toNat)
  case atStart=>exact ⟨0,Nat.zero_le _,rfl,Below.refl _ _⟩
  case round =>
   obtain ⟨k,hk,rfl,HB3⟩:=hrel
   have HR3:=Lib.hid (HR2.out.kept HB3.out HR2.out.1)
   have HV3:=Lib.hid (HV2.out.kept HB3.out HV2.out.1)
   clear y1 y2 c0 c1 c2 c3 c4 c5 c6 v1 v2 g0 g1 g2 g3 g4
   obtain ⟨y1,y2,c0,c1,c2,c3,c4,c5,c6⟩:=HR3.out
   obtain ⟨v1,v2,g0,g1,g2,g3,g4⟩:=HV3.out
   by_cases hlt:k<x.n
   ·exfalso; have:=HN.out; omega
   ·obtain rfl:k=x.n:=by omega
    have HF:Hid (inV r v=true):=HR.out
    go_wp2
    go_ret
    exact ⟨by rw [HF.out]; rfl,HB2.out.trans (HB3.out.mono HB2.out.size)⟩
 ·have HK:=Lib.hid hK
  have HE2:Hid (r=.mk 9 x.v r.subs):=by have:=HE.out; rw [hK] at this; exact this
  clear hK
  have q1:(x.kind == 1)=false:=by rw [HK.out]; rfl
  have q2:(x.kind == 2)=false:=by rw [HK.out]; rfl
  have q3:(x.kind == 3)=false:=by rw [HK.out]; rfl
  have q4:(x.kind == 4)=false:=by rw [HK.out]; rfl
  have q5:(x.kind == 5)=false:=by rw [HK.out]; rfl
  have q6:(x.kind == 6)=false:=by rw [HK.out]; rfl
  have q7:(x.kind == 7)=false:=by rw [HK.out]; rfl
  have q8:(x.kind == 8)=false:=by rw [HK.out]; rfl
  have q9:(x.kind == 9)=true:=by rw [HK.out]; rfl
  have q10:(x.kind == 10)=false:=by rw [HK.out]; rfl
  have q11:(x.kind == 11)=false:=by rw [HK.out]; rfl
  have q12:(x.kind != 10)=true:=by rw [bne,q10]; rfl
  have HR:Hid (inV r v=allV r.subs v):=by unfold Hid; rw [HE2.out,inV_eq]; rfl
  obtain ⟨y1,y2,c0,c1,c2,c3,c4,c5,c6⟩:=HR2.out
  obtain ⟨v1,v2,g0,g1,g2,g3,g4⟩:=HV2.out
  go_wp2
  go_loopw [10] (fun iv W'=>∃ k:Nat,k≤x.n∧iv=.int .i64 k∧Hid (Below W2.heap.size W2 W')∧Hid (∀ j,j<k→inV (r.subs.getD j noRng) v=true)) (fun iv _=>x.n - (intOf iv).toNat)
  case atStart=>exact ⟨0,Nat.zero_le _,rfl,Below.refl _ _,fun j hj=>absurd hj (Nat.not_lt_zero j)⟩
  case round =>
   obtain ⟨k,hk,rfl,HB3,HQ⟩:=hrel
   have HR3:=Lib.hid (HR2.out.kept HB3.out HR2.out.1)
   have HV3:=Lib.hid (HV2.out.kept HB3.out HV2.out.1)
   clear y1 y2 c0 c1 c2 c3 c4 c5 c6 v1 v2 g0 g1 g2 g3 g4
   obtain ⟨y1,y2,c0,c1,c2,c3,c4,c5,c6⟩:=HR3.out
   obtain ⟨v1,v2,g0,g1,g2,g3,g4⟩:=HV3.out
   by_cases hlt:k<x.n
   ·obtain ⟨b,o,y,hLe,hSb,hcl,hcy⟩:=HL2.out.says.subs.one hlt
    have hll:k<r.subs.length:=by rw [HLN.out]; exact hlt
    have hwt:=wt_mem (get_mem hll)
    have hlo:=HLO.out.sub (get_mem hll)
    have HGk:=Lib.hid (Range.goodL_mem HGL.out (get_mem hll))
    obtain ⟨u,hu⟩:∃ u,u=r.subs.getD k noRng:=⟨_,rfl⟩
    have HIV:Hid (inV (r.subs.getD k noRng) v=inV u v):=by unfold Hid; rw [hu]
    rw [← hu] at hcy hwt hlo HGk
    have HCx:Hid (CellsAt wr b (o+k * 7) y):=hcl.keep (KeepS.of_below (S:=LtB B) HB3.out) hSb
    have HLc:Hid (Range.Lies wr (LtB B) u y):=hcy.keep (KeepS.of_below (S:=LtB B) HB3.out)
    have HBx:=Lib.hid (HB2.out.trans (HB3.out.mono HB2.out.size))
    have hBx:B≤wr.heap.size:=Nat.le_trans hB2 HB3.out.size
    have HRx:=HR3
    have HVx:=HV3
    have HW3:=HB3
    clear hcl hcy hu HR3 HV3 HB3
    rw [hLe] at c6 ⊢
    go_upto_region 26 with (fail)
    clear y1 y2 c0 c1 c2 c3 c4 c5 c6 v1 v2 g0 g1 g2 g3 g4
    replace HBx:Hid (Below w.heap.size w wr.drew):=HBx.out.drew
    replace HRx:Hid (RAt wr.drew w.heap.size x):=HRx.out
    replace HVx:Hid (At5 wr.drew (w.heap.size+1) v.a v.b v.c (.slice A v.pre.length c) (.slice E v.build.length d)):=HVx.out
    replace HCx:Hid (CellsAt wr.drew b (o+k * 7) y):=HCx.out
    replace HLc:Hid (Range.Lies wr.drew (LtB B) u y):=HLc.out.keep (KeepS.of_below (S:=LtB B) (Below.refl _ _).drew)
    refine wp_region_held_drew (S:=fun w'=>RAt w' w.heap.size x∧At5 w' (w.heap.size+1) v.a v.b v.c (.slice A v.pre.length c) (.slice E v.build.length d)∧CellsAt w' b (o+k * 7) y) (by kernel_rfl) ⟨HRx.out,HVx.out,HCx.out⟩ (fun hHeld=>?_)
    have hBV:B≤wr.drew.heap.size:=hBx
    replace HW3:Hid (Below W2.heap.size W2 wr.drew):=HW3.out.drew
    generalize wr.drew=V at HW3 HBx HRx HVx HCx HLc hBV hHeld ⊢
    refine tk 0 rfl (.pointer (some ⟨w.heap.size,6,none⟩)) ?_
    refine tk 1 rfl (.slice (some ⟨b,o,none⟩) x.n x.e) ?_ fun w' hS'=>by obtain ⟨y1,y2,c0,c1,c2,c3,c4,c5,c6⟩:=hS'.1; rw [hLe] at c6; go_simp
    refine tk 2 rfl (.int .i64 k) ?_
    refine tk 3 rfl (.pointer (some ⟨b,o+k * 7,none⟩)) ?_
    refine tk 4 rfl y ?_ fun w' hS'=>by obtain ⟨e0,e1,e2,e3,e4,e5,e6⟩:=hS'.2.2.cells; go_simp
    refine tk 5 rfl (.agg #[v.a,v.b,v.c,.slice A v.pre.length c,.slice E v.build.length d]) ?_ fun w' hS'=>by obtain ⟨v1,v2,g0,g1,g2,g3,g4⟩:=hS'.2.1; go_simp
    refine cl 6 rfl fun K hK=>?_
    go_simp
    refine (IH.out u y B _ V (by omega) hlo HLc.out hBV HGk.out (HS1.out.kept HBx.out) (HS2.out.kept HBx.out)).mono ?_
    rintro e V1 ⟨rfl,hb⟩
    have HB4:=Lib.hid (HBx.out.trans (hb.mono HBx.out.size))
    have HR4:=Lib.hid (HRx.out.kept hb HRx.out.1)
    have HV4:=Lib.hid (HVx.out.kept hb HVx.out.1)
    have HC4:Hid (CellsAt V1 b (o+k * 7) y):=HCx.out.keep (KeepS.of_below (S:=fun _=>True) hb) trivial
    have hbx:=hb
    clear hb hHeld
    refine hK.out _ _ ⟨HR4.out,HV4.out,HC4.out⟩ (fun hHeld=>?_)
    clear hK K
    try simp only [Act.put,p1,p2,p3]
    generalize inV u v=z at HIV ⊢
    refine tk 7 rfl (.bool z) ?_
    refine wpAnyH_done (by kernel_rfl) ?_ _
    have HB5:=Lib.hid (HW3.out.trans (hbx.mono HW3.out.size))
    obtain ⟨y1,y2,c0,c1,c2,c3,c4,c5,c6⟩:=HR4.out
    cases z
    ·have HF:Hid (inV r v=false):=HR.out.trans (allV_no hll HIV.out)
     go_wp2
     go_ret
     exact ⟨by rw [HF.out]; rfl,HB4.out⟩
    ·go_wp2
     exact ⟨⟨k+1,by omega,by go_num,HB5.out,fun j hj=>by
      by_cases hjk:j=k
      ·subst hjk; exact HIV.out
      ·exact HQ.out j (by omega)⟩,by simp [intOf]; omega⟩
   ·obtain rfl:k=x.n:=by omega
    have HF:Hid (inV r v=true):=HR.out.trans (allV_yes fun j hj=>HQ.out j (by rw [← HLN.out]; exact hj))
    go_wp2
    go_ret
    exact ⟨by rw [HF.out]; rfl,HB2.out.trans (HB3.out.mono HB2.out.size)⟩
 ·have HK:=Lib.hid hK
  have HE2:Hid (r=.mk 10 x.v r.subs):=by have:=HE.out; rw [hK] at this; exact this
  clear hK
  have q1:(x.kind == 1)=false:=by rw [HK.out]; rfl
  have q2:(x.kind == 2)=false:=by rw [HK.out]; rfl
  have q3:(x.kind == 3)=false:=by rw [HK.out]; rfl
  have q4:(x.kind == 4)=false:=by rw [HK.out]; rfl
  have q5:(x.kind == 5)=false:=by rw [HK.out]; rfl
  have q6:(x.kind == 6)=false:=by rw [HK.out]; rfl
  have q7:(x.kind == 7)=false:=by rw [HK.out]; rfl
  have q8:(x.kind == 8)=false:=by rw [HK.out]; rfl
  have q9:(x.kind == 9)=false:=by rw [HK.out]; rfl
  have q10:(x.kind == 10)=true:=by rw [HK.out]; rfl
  have q11:(x.kind == 11)=false:=by rw [HK.out]; rfl
  have q12:(x.kind != 10)=false:=by rw [bne,q10]; rfl
  have HR:Hid (inV r v=anyV r.subs v):=by unfold Hid; rw [HE2.out,inV_eq]; rfl
  obtain ⟨y1,y2,c0,c1,c2,c3,c4,c5,c6⟩:=HR2.out
  obtain ⟨v1,v2,g0,g1,g2,g3,g4⟩:=HV2.out
  go_wp2
  go_loopw [10] (fun iv W'=>∃ k:Nat,k≤x.n∧iv=.int .i64 k∧Hid (Below W2.heap.size W2 W')∧Hid (∀ j,j<k→inV (r.subs.getD j noRng) v=false)) (fun iv _=>x.n - (intOf iv).toNat)
  case atStart=>exact ⟨0,Nat.zero_le _,rfl,Below.refl _ _,fun j hj=>absurd hj (Nat.not_lt_zero j)⟩
  case round =>
   obtain ⟨k,hk,rfl,HB3,HQ⟩:=hrel
   have HR3:=Lib.hid (HR2.out.kept HB3.out HR2.out.1)
   have HV3:=Lib.hid (HV2.out.kept HB3.out HV2.out.1)
   clear y1 y2 c0 c1 c2 c3 c4 c5 c6 v1 v2 g0 g1 g2 g3 g4
   obtain ⟨y1,y2,c0,c1,c2,c3,c4,c5,c6⟩:=HR3.out
   obtain ⟨v1,v2,g0,g1,g2,g3,g4⟩:=HV3.out
   by_cases hlt:k<x.n
   ·obtain ⟨b,o,y,hLe,hSb,hcl,hcy⟩:=HL2.out.says.subs.one hlt
    have hll:k<r.subs.length:=by rw [HLN.out]; exact hlt
    have hwt:=wt_mem (get_mem hll)
    have hlo:=HLO.out.sub (get_mem hll)
    have HGk:=Lib.hid (Range.goodL_mem HGL.out (get_mem hll))
    obtain ⟨u,hu⟩:∃ u,u=r.subs.getD k noRng:=⟨_,rfl⟩
    have HIV:Hid (inV (r.subs.getD k noRng) v=inV u v):=by unfold Hid; rw [hu]
    rw [← hu] at hcy hwt hlo HGk
    have HCx:Hid (CellsAt wr b (o+k * 7) y):=hcl.keep (KeepS.of_below (S:=LtB B) HB3.out) hSb
    have HLc:Hid (Range.Lies wr (LtB B) u y):=hcy.keep (KeepS.of_below (S:=LtB B) HB3.out)
    have HBx:=Lib.hid (HB2.out.trans (HB3.out.mono HB2.out.size))
    have hBx:B≤wr.heap.size:=Nat.le_trans hB2 HB3.out.size
    have HRx:=HR3
    have HVx:=HV3
    have HW3:=HB3
    clear hcl hcy hu HR3 HV3 HB3
    rw [hLe] at c6 ⊢
    go_upto_region 26 with (fail)
    clear y1 y2 c0 c1 c2 c3 c4 c5 c6 v1 v2 g0 g1 g2 g3 g4
    replace HBx:Hid (Below w.heap.size w wr.drew):=HBx.out.drew
    replace HRx:Hid (RAt wr.drew w.heap.size x):=HRx.out
    replace HVx:Hid (At5 wr.drew (w.heap.size+1) v.a v.b v.c (.slice A v.pre.length c) (.slice E v.build.length d)):=HVx.out
    replace HCx:Hid (CellsAt wr.drew b (o+k * 7) y):=HCx.out
    replace HLc:Hid (Range.Lies wr.drew (LtB B) u y):=HLc.out.keep (KeepS.of_below (S:=LtB B) (Below.refl _ _).drew)
    refine wp_region_held_drew (S:=fun w'=>RAt w' w.heap.size x∧At5 w' (w.heap.size+1) v.a v.b v.c (.slice A v.pre.length c) (.slice E v.build.length d)∧CellsAt w' b (o+k * 7) y) (by kernel_rfl) ⟨HRx.out,HVx.out,HCx.out⟩ (fun hHeld=>?_)
    have hBV:B≤wr.drew.heap.size:=hBx
    replace HW3:Hid (Below W2.heap.size W2 wr.drew):=HW3.out.drew
    generalize wr.drew=V at HW3 HBx HRx HVx HCx HLc hBV hHeld ⊢
    refine tk 0 rfl (.pointer (some ⟨w.heap.size,6,none⟩)) ?_
    refine tk 1 rfl (.slice (some ⟨b,o,none⟩) x.n x.e) ?_ fun w' hS'=>by obtain ⟨y1,y2,c0,c1,c2,c3,c4,c5,c6⟩:=hS'.1; rw [hLe] at c6; go_simp
    refine tk 2 rfl (.int .i64 k) ?_
    refine tk 3 rfl (.pointer (some ⟨b,o+k * 7,none⟩)) ?_
    refine tk 4 rfl y ?_ fun w' hS'=>by obtain ⟨e0,e1,e2,e3,e4,e5,e6⟩:=hS'.2.2.cells; go_simp
    refine tk 5 rfl (.agg #[v.a,v.b,v.c,.slice A v.pre.length c,.slice E v.build.length d]) ?_ fun w' hS'=>by obtain ⟨v1,v2,g0,g1,g2,g3,g4⟩:=hS'.2.1; go_simp
    refine cl 6 rfl fun K hK=>?_
    go_simp
    refine (IH.out u y B _ V (by omega) hlo HLc.out hBV HGk.out (HS1.out.kept HBx.out) (HS2.out.kept HBx.out)).mono ?_
    rintro e V1 ⟨rfl,hb⟩
    have HB4:=Lib.hid (HBx.out.trans (hb.mono HBx.out.size))
    have HR4:=Lib.hid (HRx.out.kept hb HRx.out.1)
    have HV4:=Lib.hid (HVx.out.kept hb HVx.out.1)
    have HC4:Hid (CellsAt V1 b (o+k * 7) y):=HCx.out.keep (KeepS.of_below (S:=fun _=>True) hb) trivial
    have hbx:=hb
    clear hb hHeld
    refine hK.out _ _ ⟨HR4.out,HV4.out,HC4.out⟩ (fun hHeld=>?_)
    clear hK K
    try simp only [Act.put,p1,p2,p3]
    generalize inV u v=z at HIV ⊢
    refine tk 7 rfl (.bool z) ?_
    refine wpAnyH_done (by kernel_rfl) ?_ _
    have HB5:=Lib.hid (HW3.out.trans (hbx.mono HW3.out.size))
    obtain ⟨y1,y2,c0,c1,c2,c3,c4,c5,c6⟩:=HR4.out
    cases z
    ·go_wp2
     exact ⟨⟨k+1,by omega,by go_num,HB5.out,fun j hj=>by
      by_cases hjk:j=k
      ·subst hjk; exact HIV.out
      ·exact HQ.out j (by omega)⟩,by simp [intOf]; omega⟩
    ·have HF:Hid (inV r v=true):=HR.out.trans (anyV_some hll HIV.out)
     go_wp2
     go_ret
     exact ⟨by rw [HF.out]; rfl,HB4.out⟩
   ·obtain rfl:k=x.n:=by omega
    have HF:Hid (inV r v=false):=HR.out.trans (anyV_no fun j hj=>HQ.out j (by rw [← HLN.out]; exact hj))
    go_wp2
    go_ret
    exact ⟨by rw [HF.out]; rfl,HB2.out.trans (HB3.out.mono HB2.out.size)⟩
 ·have HK:=Lib.hid hK
  have HE2:Hid (r=.mk 11 x.v r.subs):=by have:=HE.out; rw [hK] at this; exact this
  clear hK
  have q1:(x.kind == 1)=false:=by rw [HK.out]; rfl
  have q2:(x.kind == 2)=false:=by rw [HK.out]; rfl
  have q3:(x.kind == 3)=false:=by rw [HK.out]; rfl
  have q4:(x.kind == 4)=false:=by rw [HK.out]; rfl
  have q5:(x.kind == 5)=false:=by rw [HK.out]; rfl
  have q6:(x.kind == 6)=false:=by rw [HK.out]; rfl
  have q7:(x.kind == 7)=false:=by rw [HK.out]; rfl
  have q8:(x.kind == 8)=false:=by rw [HK.out]; rfl
  have q9:(x.kind == 9)=false:=by rw [HK.out]; rfl
  have q10:(x.kind == 10)=false:=by rw [HK.out]; rfl
  have q11:(x.kind == 11)=true:=by rw [HK.out]; rfl
  obtain ⟨u,hu⟩:=List.length_eq_one_iff.1 (HLN.out.trans hn)
  have HR:Hid (inV r v=!inV u v):=by unfold Hid; rw [HE2.out,inV_eq,hu]; rfl
  obtain ⟨b,o,y,hLe,hSb,hcl,hcy⟩:=HL2.out.says.subs.one (show 0<x.n by omega)
  have hmem:u ∈ r.subs:=by rw [hu]; exact List.mem_singleton.2 rfl
  have hwt:=Range.wt_mem hmem
  have hlo:=HLO.out.sub hmem
  have HGk:=Lib.hid (Range.goodL_mem HGL.out hmem)
  have HIV:=HR
  rw [hu] at hcy
  have HLc:Hid (Range.Lies W2 (LtB B) u y):=hcy
  simp only [Nat.zero_mul,Nat.add_zero] at hcl
  have HCx:Hid (CellsAt W2 b o y):=hcl
  have HBx:=HB2
  have hBx:=hB2
  have HRx:=HR2
  have HVx:=HV2
  obtain ⟨y1,y2,c0,c1,c2,c3,c4,c5,c6⟩:=HR2.out
  obtain ⟨v1,v2,g0,g1,g2,g3,g4⟩:=HV2.out
  have HN:=Lib.hid hn
  have hn0:0<x.n:=by omega
  clear hcl hcy hmem hu hn HR2 HV2 HB2
  rw [hLe] at c6
  go_upto_region 22 with (fail)
  clear y1 y2 c0 c1 c2 c3 c4 c5 c6 v1 v2 g0 g1 g2 g3 g4
  replace HBx:Hid (Below w.heap.size w W2.drew):=HBx.out.drew
  replace HRx:Hid (RAt W2.drew w.heap.size x):=HRx.out
  replace HVx:Hid (At5 W2.drew (w.heap.size+1) v.a v.b v.c (.slice A v.pre.length c) (.slice E v.build.length d)):=HVx.out
  replace HCx:Hid (CellsAt W2.drew b (o) y):=HCx.out
  replace HLc:Hid (Range.Lies W2.drew (LtB B) u y):=HLc.out.keep (KeepS.of_below (S:=LtB B) (Below.refl _ _).drew)
  refine wp_region_held_drew (S:=fun w'=>RAt w' w.heap.size x∧At5 w' (w.heap.size+1) v.a v.b v.c (.slice A v.pre.length c) (.slice E v.build.length d)∧CellsAt w' b (o) y) (by kernel_rfl) ⟨HRx.out,HVx.out,HCx.out⟩ (fun hHeld=>?_)
  have hBV:B≤W2.drew.heap.size:=hBx
  generalize W2.drew=V at HBx HRx HVx HCx HLc hBV hHeld ⊢
  refine tk 0 rfl (.pointer (some ⟨w.heap.size,6,none⟩)) ?_
  refine tk 1 rfl (.slice (some ⟨b,o,none⟩) x.n x.e) ?_ fun w' hS'=>by obtain ⟨y1,y2,c0,c1,c2,c3,c4,c5,c6⟩:=hS'.1; rw [hLe] at c6; go_simp
  refine tk 2 rfl (.pointer (some ⟨b,o,none⟩)) ?_
  refine tk 3 rfl y ?_ fun w' hS'=>by obtain ⟨e0,e1,e2,e3,e4,e5,e6⟩:=hS'.2.2.cells; go_simp
  refine tk 4 rfl (.agg #[v.a,v.b,v.c,.slice A v.pre.length c,.slice E v.build.length d]) ?_ fun w' hS'=>by obtain ⟨v1,v2,g0,g1,g2,g3,g4⟩:=hS'.2.1; go_simp
  refine cl 5 rfl fun K hK=>?_
  go_simp
  refine (IH.out u y B _ V (by omega) hlo HLc.out hBV HGk.out (HS1.out.kept HBx.out) (HS2.out.kept HBx.out)).mono ?_
  rintro e V1 ⟨rfl,hb⟩
  have HB4:=Lib.hid (HBx.out.trans (hb.mono HBx.out.size))
  have HR4:=Lib.hid (HRx.out.kept hb HRx.out.1)
  have HV4:=Lib.hid (HVx.out.kept hb HVx.out.1)
  have HC4:Hid (CellsAt V1 b (o) y):=HCx.out.keep (KeepS.of_below (S:=fun _=>True) hb) trivial
  have hbx:=hb
  clear hb hHeld
  refine hK.out _ _ ⟨HR4.out,HV4.out,HC4.out⟩ (fun hHeld=>?_)
  clear hK K
  try simp only [Act.put,p1,p2,p3]
  generalize inV u v=z at HIV HR ⊢
  refine tk 6 rfl (.bool (!z)) ?_
  refine tk 7 rfl (.bool (!z)) ?_
  refine wpAnyH_done (by kernel_rfl) ?_ _
  go_wp2
  go_ret
  exact ⟨by rw [HIV.out]; rfl,HB4.out⟩
theorem in_any (v:Ver) (A:Option Addr) (c:Nat) (E:Option Addr) (d:Nat) (hp:v.pre.length≤maxLen) (hids:∀ x ∈ v.pre,x.length≤1000):∀ m,InAt v A c E d m
 | 0=>fun r x B q w hm _ hx hB hg _ _=>by rw [Range.wt_eq] at hm; omega
 | m+1=>in_step v A c E d hp hids m (in_any v A c E d hp hids m)
end Go.Proofs.YtgakcdcfblgagaaGreatDoor.Nrm
namespace Go.Proofs.YtgakcdcfblgagaaGreatDoor.Model
open Go.RowKit Num Ident Semver
open Range (Rng noRng goodR sameV_eq)
open Nrm (inV hasR)
open Name (isName)
open Prec (fullV fullV_ordr)

structure SortOf {α:Type} (le:α→α→Prop) (l l':List α):Prop where
 perm:l'.Perm l
 up:l'.Pairwise le
 same:l.Pairwise le→l'=l
def relLe (a b:PRel):Prop:=fullV a.v b.v≤0
def packLe (p q:PPack):Prop:=¬ q.name<p.name
def PlainOf (x y:List PPack):Prop :=
 ∃ z:List PPack,z.length=x.length∧(∀ i,i<x.length→(z.getD i default).name=(x.getD i default).name∧SortOf relLe (x.getD i default).rels (z.getD i default).rels)∧SortOf packLe z y
theorem toO_no {e:Int}:toO e=none↔e=0:=by unfold toO; split <;> simp_all
theorem firstG_iff {α β:Type} [Inhabited α] {f:Nat→α→Option β} {l:List α}:firstG f 0 l=none↔∀ j,j<l.length→f j (l.getD j default)=none:=by
 constructor
 ·intro h j hj; have:=firstG_no f l 0 h j hj; rwa [Nat.zero_add] at this
 ·intro h; exact firstG_none f l 0 fun j hj=>by rw [Nat.zero_add]; exact h j hj
theorem memD {α:Type} [Inhabited α] (l:List α) {k:Nat} (h:k<l.length):l.getD k default ∈ l:=by
 rw [List.getD_eq_getElem?_getD,List.getElem?_eq_getElem h]; exact List.getElem_mem _
theorem ofMem {α:Type} [Inhabited α] {l:List α} {a:α} (h:a ∈ l):∃ k,k<l.length∧l.getD k default=a:=by
 obtain ⟨k,hk,rfl⟩:=List.getElem_of_mem h
 exact ⟨k,hk,by rw [List.getD_eq_getElem?_getD,List.getElem?_eq_getElem hk]; rfl⟩
theorem ahead_iff {α:Type} [Inhabited α] (f:α→α→Bool) (l:List α):(∀ k,k<l.length→((l.take k).any fun x=>f x (l.getD k default))=false)↔l.Pairwise fun a b=>f a b=false:=by
 rw [List.pairwise_iff_getElem]
 constructor
 ·intro h i j hi hj hij
  have:=h j hj
  rw [List.any_eq_false] at this
  have g:=this l[i] (by rw [List.mem_take_iff_getElem]; exact ⟨i,by omega,rfl⟩)
  rw [List.getD_eq_getElem?_getD,List.getElem?_eq_getElem hj] at g
  exact Bool.eq_false_iff.2 g
 ·intro h k hk
  rw [List.any_eq_false]
  intro a ha
  obtain ⟨i,hi,rfl⟩:=List.mem_take_iff_getElem.1 ha
  rw [List.getD_eq_getElem?_getD,List.getElem?_eq_getElem hk]
  have:=h i k (by omega) hk (by omega)
  exact Bool.eq_false_iff.1 this
def RightRel (pn:List UInt8) (r:PRel):Prop:=goodV r.v=true∧(∀ d ∈ r.needs ++ r.bans,depE d=0)∧∀ d ∈ r.bans,¬ (d.name=pn∧inV d.r r.v=true)
def RightRels (pn:List UInt8) (l:List PRel):Prop:=(∀ r ∈ l,RightRel pn r)∧l.Pairwise fun a b=>sameV a.v b.v=false
def RightX (x:List PPack):Prop:=x.length≤4096∧(∀ p ∈ x,isName p.name=true∧RightRels p.name p.rels)∧x.Pairwise fun p q=>(p.name == q.name)=false
theorem banE_iff (pn:List UInt8) (v:Ver) (nn j:Nat) (d:PDep):banE pn v nn j d=0↔depE d=0∧¬ (nn≤j∧d.name=pn∧inV d.r v=true):=by
 unfold banE
 by_cases h:depE d=0
 ·rw [if_neg (fun g=>g h)]
  by_cases g:nn≤j∧d.name=pn∧inV d.r v=true
  ·rw [if_pos g]; simp [g]
  ·rw [if_neg g]; exact ⟨fun _=>⟨h,g⟩,fun _=>rfl⟩
 ·rw [if_pos h]; exact ⟨fun g=>absurd g h,fun g=>absurd g.1 h⟩
theorem bans_iff (pn:List UInt8) (r:PRel):(firstG (fun j d=>toO (banE pn r.v r.needs.length j d)) 0 (r.needs ++ r.bans)=none)↔(∀ d ∈ r.needs ++ r.bans,depE d=0)∧∀ d ∈ r.bans,¬ (d.name=pn∧inV d.r r.v=true):=by
 rw [firstG_iff]
 simp only [toO_no,banE_iff]
 constructor
 ·intro h
  refine ⟨fun d hd=>?_,fun d hd g=>?_⟩
  ·obtain ⟨k,hk,rfl⟩:=ofMem hd
   exact (h k hk).1
  ·obtain ⟨k,hk,rfl⟩:=ofMem hd
   have h1:=(h (r.needs.length+k) (by rw [List.length_append]; omega)).2
   rw [show (r.needs ++ r.bans).getD (r.needs.length+k) default=r.bans.getD k default by
    rw [List.getD_eq_getElem?_getD,List.getElem?_append_right (by omega),Nat.add_sub_cancel_left,← List.getD_eq_getElem?_getD]] at h1
   exact h1 ⟨by omega,g⟩
 ·rintro ⟨h1,h2⟩ j hj
  refine ⟨h1 _ (memD _ hj),fun ⟨g1,g2⟩=>h2 _ ?_ g2⟩
  rw [List.length_append] at hj
  rw [List.getD_eq_getElem?_getD,List.getElem?_append_right g1,← List.getD_eq_getElem?_getD]
  exact memD _ (by omega)
theorem relF_iff (pn:List UInt8) (l:List PRel) (k:Nat) (r:PRel):relF pn l k r=none↔RightRel pn r∧verB l k=false:=by
 unfold relF RightRel
 cases h1:goodV r.v
 ·simp
 ·cases h2:verB l k
  ·simp only [Bool.false_eq_true,reduceIte,Option.map_eq_none_iff,true_and,and_true,Bool.true_eq_false]
   exact bans_iff pn r
  ·simp
theorem rels_iff (pn:List UInt8) (l:List PRel):firstG (relF pn l) 0 l=none↔RightRels pn l:=by
 rw [firstG_iff]
 simp only [relF_iff]
 unfold RightRels
 rw [← ahead_iff (fun a b:PRel=>sameV a.v b.v) l]
 constructor
 ·intro h
  refine ⟨fun r hr=>?_,fun k hk=>(h k hk).2⟩
  obtain ⟨k,hk,rfl⟩:=ofMem hr
  exact (h k hk).1
 ·rintro ⟨h1,h2⟩ k hk
  exact ⟨h1 _ (memD _ hk),h2 k hk⟩
theorem packF_iff (x:List PPack) (k:Nat) (p:PPack):packF x k p=none↔(isName p.name=true∧RightRels p.name p.rels)∧nameB PPack.name x k=false:=by
 unfold packF
 cases h1:isName p.name
 ·simp
 ·cases h2:nameB PPack.name x k
  ·simp only [Bool.false_eq_true,reduceIte,Option.map_eq_none_iff,true_and,and_true,Bool.true_eq_false]
   exact rels_iff _ _
  ·simp
theorem check_iff (x:List PPack):checkF x=none↔RightX x:=by
 unfold checkF RightX
 by_cases h0:4096<x.length
 ·rw [if_pos h0]; simp; omega
 ·rw [if_neg h0,Option.map_eq_none_iff,firstG_iff]
  simp only [packF_iff]
  rw [← ahead_iff (fun p q:PPack=>p.name == q.name) x]
  constructor
  ·intro h
   refine ⟨by omega,fun p hp=>?_,fun k hk=>(h k hk).2⟩
   obtain ⟨k,hk,rfl⟩:=ofMem hp
   exact (h k hk).1
  ·rintro ⟨_,h1,h2⟩ k hk
   exact ⟨h1 _ (memD _ hk),h2 k hk⟩
theorem sameV_comm (u v:Ver):sameV u v=sameV v u:=by
 rw [Bool.eq_iff_iff]
 constructor <;> intro h <;> (have:=sameV_eq h; subst this; exact sameV_self _)
theorem rightRels_perm {pn:List UInt8} {l l':List PRel} (h:l'.Perm l):RightRels pn l'↔RightRels pn l:=by
 unfold RightRels
 rw [h.pairwise_iff (fun {a b} g=>by rw [sameV_comm]; exact g)]
 exact and_congr_left fun _=>⟨fun g r hr=>g r (h.mem_iff.2 hr),fun g r hr=>g r (h.mem_iff.1 hr)⟩
theorem beq_comm_name (a b:List UInt8):(a == b)=(b == a):=by rw [Bool.eq_iff_iff,beq_iff_eq,beq_iff_eq]; exact eq_comm
theorem rightX_perm {x y:List PPack} (h:y.Perm x):RightX y↔RightX x:=by
 unfold RightX
 rw [h.length_eq,h.pairwise_iff (fun {a b} g=>by rw [beq_comm_name]; exact g)]
 exact and_congr_right fun _=>and_congr_left fun _=>⟨fun g r hr=>g r (h.mem_iff.2 hr),fun g r hr=>g r (h.mem_iff.1 hr)⟩
section
variable {x z:List PPack} (hl:z.length=x.length) (hz:∀ i,i<x.length→(z.getD i default).name=(x.getD i default).name∧SortOf relLe (x.getD i default).rels (z.getD i default).rels)
include hl hz
theorem mid_mem {q:PPack} (h:q ∈ z):∃ p ∈ x,q.name=p.name∧SortOf relLe p.rels q.rels:=by
 obtain ⟨k,hk,rfl⟩:=ofMem h
 exact ⟨_,memD x (by omega),hz k (by omega)⟩
theorem mid_mem2 {p:PPack} (h:p ∈ x):∃ q ∈ z,q.name=p.name∧SortOf relLe p.rels q.rels:=by
 obtain ⟨k,hk,rfl⟩:=ofMem h
 exact ⟨_,memD z (by omega),hz k hk⟩
theorem mid_names:z.map PPack.name=x.map PPack.name:=by
 apply List.ext_getElem (by simp [hl])
 intro i h1 h2
 have h1':i<z.length:=by simpa using h1
 have h2':i<x.length:=by simpa using h2
 have:=(hz i h2').1
 rw [List.getD_eq_getElem?_getD,List.getElem?_eq_getElem h1',List.getD_eq_getElem?_getD,List.getElem?_eq_getElem h2'] at this
 simpa using this
theorem mid_right:RightX z↔RightX x:=by
 unfold RightX
 have e:(z.Pairwise fun p q=>(p.name == q.name)=false)↔x.Pairwise fun p q=>(p.name == q.name)=false:=by
  have a:=List.pairwise_map (f:=PPack.name) (R:=fun p q:List UInt8=>(p == q)=false) (l:=z)
  have b:=List.pairwise_map (f:=PPack.name) (R:=fun p q:List UInt8=>(p == q)=false) (l:=x)
  rw [mid_names hl hz] at a
  exact a.symm.trans b
 rw [hl,e]
 refine and_congr_right fun _=>and_congr_left fun _=>⟨fun g p hp=>?_,fun g q hq=>?_⟩
 ·obtain ⟨q,hq,h1,h2⟩:=mid_mem2 hl hz hp
  have:=g q hq
  rw [h1,rightRels_perm h2.perm] at this
  exact this
 ·obtain ⟨p,hp,h1,h2⟩:=mid_mem hl hz hq
  rw [h1,rightRels_perm h2.perm]
  exact g p hp
end
theorem plain_right {x y:List PPack} (h:PlainOf x y):checkF y=none↔checkF x=none:=by
 obtain ⟨z,hl,hz,hs⟩:=h
 rw [check_iff,check_iff,rightX_perm hs.perm,mid_right hl hz]
theorem plain_len {x y:List PPack} (h:PlainOf x y):y.length=x.length:=by
 obtain ⟨z,hl,hz,hs⟩:=h
 rw [hs.perm.length_eq,hl]
theorem pack_ext:∀ {p q:PPack},p.name=q.name→p.rels=q.rels→p=q
 | ⟨_,_⟩,⟨_,_⟩,rfl,rfl=>rfl
end Go.Proofs.YtgakcdcfblgagaaGreatDoor.Model
