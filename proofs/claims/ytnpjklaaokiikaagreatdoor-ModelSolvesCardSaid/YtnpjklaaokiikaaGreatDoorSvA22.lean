/-
  What the theorem of the last text needs of these: NmRefIn, MoMem. Conditions: as each theorem states.
-/
import Derived.Test.YtnpjklaaokiikaaGreatDoorSvA1
import Derived.Test.YtnpjklaaokiikaaGreatDoorSvA9
import Derived.Test.YtnpjklaaokiikaaGreatDoorSvA10
import Derived.Test.YtnpjklaaokiikaaGreatDoorSvA12
import Derived.Test.YtnpjklaaokiikaaGreatDoorSvA16
import Derived.Test.YtnpjklaaokiikaaGreatDoorSvA17
import Derived.Test.YtnpjklaaokiikaaGreatDoorSvA21
import Derived.BigQuiet
set_option maxRecDepth 100000
set_option maxHeartbeats 25600000
namespace Go.Proofs.YtnpjklaaokiikaaGreatDoor.Nrm
open Go.RowKit Num Ident Semver Prec Span
open Range (Rng noRng goodR goodL fits wt wtL RV RAt KeepS LtB LenOk wt_mem CellsAt)
theorem good_ids {v:Ver} (h:goodV v=true):∀ x ∈ v.pre,x.length≤1000:=by
 unfold goodV at h
 rw [Bool.and_eq_true,Bool.and_eq_true] at h
 exact fun x hx=>Nat.le_trans ((goodFrom_bound v.pre 0 h.2.1).2 x hx) (by omega)
theorem anyV_no {l:List Rng} {v:Ver} (h:∀ j,j<l.length→inV (l.getD j noRng) v=false):anyV l v=false:=by
 rw [Bool.eq_false_iff]
 intro k
 obtain ⟨x,hx,hi⟩:=anyV_iff.1 k
 obtain ⟨j,hj,rfl⟩:=List.getElem_of_mem hx
 have:=h j hj
 rw [List.getD_eq_getElem?_getD,List.getElem?_eq_getElem hj] at this
 rw [show (some l[j]).getD noRng=l[j] from rfl,hi] at this
 cases this
theorem allV_yes {l:List Rng} {v:Ver} (h:∀ j,j<l.length→inV (l.getD j noRng) v=true):allV l v=true:=by
 rw [allV_iff]
 intro x hx
 obtain ⟨j,hj,rfl⟩:=List.getElem_of_mem hx
 have:=h j hj
 rw [List.getD_eq_getElem?_getD,List.getElem?_eq_getElem hj] at this
 exact this
theorem endRow_len {a b c i:Nat} {e:Ver} (h:endV a b c i=some e):e.pre.length≤1:=by
 have key:∀ x y z,(firstV x y z).pre.length≤1:=fun _ _ _=>Nat.le_refl _
 unfold endV at h
 split at h
 ·split at h
  ·cases h
  ·injection h with h; subst h; exact key _ _ _
 ·split at h
  ·split at h
   ·cases h
   ·injection h with h; subst h; exact key _ _ _
  ·split at h
   ·cases h
   ·injection h with h; subst h; exact key _ _ _
theorem get_mem {l:List Rng} {j:Nat} (h:j<l.length):l.getD j noRng ∈ l:=by
 rw [List.getD_eq_getElem?_getD,List.getElem?_eq_getElem h]; exact List.getElem_mem _
theorem allV_no {l:List Rng} {v:Ver} {j:Nat} (hj:j<l.length) (h:inV (l.getD j noRng) v=false):allV l v=false:=by
 rw [Bool.eq_false_iff]
 intro k
 have:=allV_iff.1 k _ (get_mem hj)
 rw [h] at this; cases this
theorem anyV_some {l:List Rng} {v:Ver} {j:Nat} (hj:j<l.length) (h:inV (l.getD j noRng) v=true):anyV l v=true:=anyV_iff.2 ⟨_,get_mem hj,h⟩
theorem rv_start (w:World) (x:RV) (v:Ver) (A:Option Addr) (c:Nat) (E:Option Addr) (d:Nat):∃ W,W=((w.alloc x).alloc (v,A,c,E,d))∧Hid (Below w.heap.size w W)∧Hid (RAt W w.heap.size x)∧Hid (At5 W (w.heap.size+1) v.a v.b v.c (.slice A v.pre.length c) (.slice E v.build.length d)):=by
 refine ⟨_,rfl,((Below.refl _ _).alloc (Nat.le_refl _) _).alloc (by simp) _,(RAt.new w 55 x).kept ((Below.refl _ _).alloc (Nat.le_refl _) _) (by simp),?_⟩
 have h:=At5.new (w.alloc x) 34 v.a v.b v.c (.slice A v.pre.length c) (.slice E v.build.length d)
 rw [size_alloc] at h; exact h
def InAt (v:Ver) (A:Option Addr) (c:Nat) (E:Option Addr) (d:Nat) (m:Nat):Prop:=∀ (r:Rng) (x:RV) (B q:Nat) (w:World),wt r≤m→LenOk r→Range.Lies w (LtB B) r x→B≤w.heap.size→goodR r q=true→SRow w A v.pre.length v.pre→SRow w E v.build.length v.build →
  Calls Tryz.prog 79 #[x.agg,.agg #[v.a,v.b,v.c,.slice A v.pre.length c,.slice E v.build.length d]] w fun e w'=>e=.returned (.bool (inV r v))∧Below w.heap.size w w'
theorem in_step (v:Ver) (A:Option Addr) (c:Nat) (E:Option Addr) (d:Nat) (hp:v.pre.length≤maxLen) (hids:∀ x ∈ v.pre,x.length≤1000) (m:Nat) (ih:InAt v A c E d m):InAt v A c E d (m+1):=by
 intro r x B q w hm hlo hx hB hg s1 s2
 have IH:=Lib.hid ih
 have HS1:=Lib.hid s1
 have HS2:=Lib.hid s2
 have HP:=Lib.hid hp
 have HI:=Lib.hid hids
 have hs:=hx.says
 have HFit:=Lib.hid hs.fit
 have HLO:=Lib.hid hlo
 have hxn:x.n≤9223372036854775807:=by obtain ⟨f,hln,_,_⟩:=hs.subs; rw [← hln]; exact hlo.here
 clear ih s1 s2 hp hids hlo
 obtain ⟨hd,hgl,hln,hrk,hk⟩:=Range.right_at hx hg
 have HE:=Lib.hid (rng_eq hx)
 obtain ⟨W,hW,HB,HRA,HVA⟩:=rv_start w x v A c E d
 have HL:=Lib.hid (hx.keep (KeepS.of_below (S:=LtB B) HB.out))
 have HGL:=Lib.hid hgl
 have HLN:=Lib.hid hln
 have HXI:Hid (∀ y ∈ x.v.pre,y.length≤1000):=by
  rcases hk with ⟨_,_,h3,_⟩ | ⟨h3,_⟩
  ·exact good_ids h3
  ·rw [h3]; exact fun y hy=>by cases hy
 have hwl:wtL r.subs≤m:=by rw [Range.wt_eq] at hm; omega
 clear hs hx hg hgl
 unfold RV.agg
 go_enter Tryz.func79,Tryz.ntmps79
 go_upto_region 1 with (fail)
 rw [← hW]
 clear hW
 obtain ⟨y1,y2,c0,c1,c2,c3,c4,c5,c6⟩:=HRA.out
 obtain ⟨v1,v2,g0,g1,g2,g3,g4⟩:=HVA.out
 go_wp2_with fail
 refine (refCompare_any v x.v A E x.A x.B c d x.c x.d W (HS1.out.kept HB.out) HL.out.says.pre HP.out HFit.out.pre HI.out HXI.out).mono ?_
 rintro e W2 ⟨rfl,hb⟩
 have HB2:=Lib.hid (HB.out.trans (hb.mono HB.out.size))
 have HR2:=Lib.hid (HRA.out.kept hb HRA.out.1)
 have HV2:=Lib.hid (HVA.out.kept hb HVA.out.1)
 have HL2:=Lib.hid (HL.out.keep (KeepS.of_below (S:=LtB B) hb))
 have hB2:B≤W2.heap.size:=Nat.le_trans hB HB2.out.size
 clear hb y1 y2 c0 c1 c2 c3 c4 c5 c6 v1 v2 g0 g1 g2 g3 g4 HRA HVA HL HB
 have hkk:(1≤x.kind∧x.kind≤8∧goodV x.v=true∧x.n=0)∨x.kind=0∧x.n=0∨x.kind=9∨x.kind=10∨x.kind=11∧x.n=1:=by
  rcases hk with h | ⟨_,h | ⟨h1 | h1,h2⟩ | h⟩
  ·exact .inl h
  ·exact .inr (.inl h)
  ·exact .inr (.inr (.inl h1))
  ·exact .inr (.inr (.inr (.inl h1)))
  ·exact .inr (.inr (.inr (.inr h)))
 clear hk
 rcases hkk with ⟨h1,h8,hgv,hn⟩ | ⟨hK,hn⟩ | hK | hK | ⟨hK,hn⟩
 ·rcases (show x.kind=1∨x.kind=2∨x.kind=3∨x.kind=4∨x.kind=5∨x.kind=6∨x.kind=7∨x.kind=8 by omega) with hK | hK | hK | hK | hK | hK | hK | hK
  ·have HK:=Lib.hid hK
   have HE2:Hid (r=.mk 1 x.v r.subs):=by have:=HE.out; rw [hK] at this; exact this
   clear hK
   have q1:(x.kind == 1)=true:=by rw [HK.out]; rfl
   have HR:Hid (inV r v=decide (0≤cmpV v x.v)):=by unfold Hid; rw [HE2.out,inV_eq]; rfl
   generalize cmpV v x.v=n at HR ⊢
   obtain ⟨y1,y2,c0,c1,c2,c3,c4,c5,c6⟩:=HR2.out
   obtain ⟨v1,v2,g0,g1,g2,g3,g4⟩:=HV2.out
   go_wp2
   go_ret
   exact ⟨by rw [HR.out]; rfl,HB2.out⟩
  ·have HK:=Lib.hid hK
   have HE2:Hid (r=.mk 2 x.v r.subs):=by have:=HE.out; rw [hK] at this; exact this
   clear hK
   have q1:(x.kind == 1)=false:=by rw [HK.out]; rfl
   have q2:(x.kind == 2)=true:=by rw [HK.out]; rfl
   have HR:Hid (inV r v=decide (0<cmpV v x.v)):=by unfold Hid; rw [HE2.out,inV_eq]; rfl
   generalize cmpV v x.v=n at HR ⊢
   obtain ⟨y1,y2,c0,c1,c2,c3,c4,c5,c6⟩:=HR2.out
   obtain ⟨v1,v2,g0,g1,g2,g3,g4⟩:=HV2.out
   go_wp2
   go_ret
   exact ⟨by rw [HR.out]; rfl,HB2.out⟩
  ·have HK:=Lib.hid hK
   have HE2:Hid (r=.mk 3 x.v r.subs):=by have:=HE.out; rw [hK] at this; exact this
   clear hK
   have q1:(x.kind == 1)=false:=by rw [HK.out]; rfl
   have q2:(x.kind == 2)=false:=by rw [HK.out]; rfl
   have q3:(x.kind == 3)=true:=by rw [HK.out]; rfl
   have HR:Hid (inV r v=decide (cmpV v x.v≤0)):=by unfold Hid; rw [HE2.out,inV_eq]; rfl
   generalize cmpV v x.v=n at HR ⊢
   obtain ⟨y1,y2,c0,c1,c2,c3,c4,c5,c6⟩:=HR2.out
   obtain ⟨v1,v2,g0,g1,g2,g3,g4⟩:=HV2.out
   go_wp2
   go_ret
   exact ⟨by rw [HR.out]; rfl,HB2.out⟩
  ·have HK:=Lib.hid hK
   have HE2:Hid (r=.mk 4 x.v r.subs):=by have:=HE.out; rw [hK] at this; exact this
   clear hK
   have q1:(x.kind == 1)=false:=by rw [HK.out]; rfl
   have q2:(x.kind == 2)=false:=by rw [HK.out]; rfl
   have q3:(x.kind == 3)=false:=by rw [HK.out]; rfl
   have q4:(x.kind == 4)=true:=by rw [HK.out]; rfl
   have HR:Hid (inV r v=decide (cmpV v x.v<0)):=by unfold Hid; rw [HE2.out,inV_eq]; rfl
   generalize cmpV v x.v=n at HR ⊢
   obtain ⟨y1,y2,c0,c1,c2,c3,c4,c5,c6⟩:=HR2.out
   obtain ⟨v1,v2,g0,g1,g2,g3,g4⟩:=HV2.out
   go_wp2
   go_ret
   exact ⟨by rw [HR.out]; rfl,HB2.out⟩
  ·have HK:=Lib.hid hK
   have HE2:Hid (r=.mk 5 x.v r.subs):=by have:=HE.out; rw [hK] at this; exact this
   clear hK
   have q1:(x.kind == 1)=false:=by rw [HK.out]; rfl
   have q2:(x.kind == 2)=false:=by rw [HK.out]; rfl
   have q3:(x.kind == 3)=false:=by rw [HK.out]; rfl
   have q4:(x.kind == 4)=false:=by rw [HK.out]; rfl
   have q5:(x.kind == 5)=true:=by rw [HK.out]; rfl
   have HR:Hid (inV r v=(cmpV v x.v == 0)):=by unfold Hid; rw [HE2.out,inV_eq]; rfl
   generalize cmpV v x.v=n at HR ⊢
   obtain ⟨y1,y2,c0,c1,c2,c3,c4,c5,c6⟩:=HR2.out
   obtain ⟨v1,v2,g0,g1,g2,g3,g4⟩:=HV2.out
   go_wp2
   go_ret
   exact ⟨by rw [HR.out]; rfl,HB2.out⟩
  ·have HK:=Lib.hid hK
   have HE2:Hid (r=.mk 6 x.v r.subs):=by have:=HE.out; rw [hK] at this; exact this
   clear hK
   have q1:(x.kind == 1)=false:=by rw [HK.out]; rfl
   have q2:(x.kind == 2)=false:=by rw [HK.out]; rfl
   have q3:(x.kind == 3)=false:=by rw [HK.out]; rfl
   have q4:(x.kind == 4)=false:=by rw [HK.out]; rfl
   have q5:(x.kind == 5)=false:=by rw [HK.out]; rfl
   have q6:(x.kind == 6)=true:=by rw [HK.out]; rfl
   have HR:Hid (inV r v=(cmpV v x.v != 0)):=by unfold Hid; rw [HE2.out,inV_eq]; exact decide_not
   generalize cmpV v x.v=n at HR ⊢
   obtain ⟨y1,y2,c0,c1,c2,c3,c4,c5,c6⟩:=HR2.out
   obtain ⟨v1,v2,g0,g1,g2,g3,g4⟩:=HV2.out
   go_wp2
   go_ret
   exact ⟨by rw [HR.out]; rfl,HB2.out⟩
  ·have HK:=Lib.hid hK
   have HE2:Hid (r=.mk 7 x.v r.subs):=by have:=HE.out; rw [hK] at this; exact this
   clear hK
   have q1:(x.kind == 1)=false:=by rw [HK.out]; rfl
   have q2:(x.kind == 2)=false:=by rw [HK.out]; rfl
   have q3:(x.kind == 3)=false:=by rw [HK.out]; rfl
   have q4:(x.kind == 4)=false:=by rw [HK.out]; rfl
   have q5:(x.kind == 5)=false:=by rw [HK.out]; rfl
   have q6:(x.kind == 6)=false:=by rw [HK.out]; rfl
   have q7:(x.kind == 7)=true:=by rw [HK.out]; rfl
   have HR:Hid (inV r v=(decide (0≤cmpV v x.v) && hereV (caretV x.v) v)):=by unfold Hid; rw [HE2.out,inV_eq]; rfl
   have HEG:Hid (∀ e,caretV x.v=some e→∀ y ∈ e.pre,y.length≤1000):=fun e he=>good_ids (end_good hgv he).1
   have HEL:Hid (∀ e,caretV x.v=some e→e.pre.length≤maxLen):=fun e he=>Nat.le_trans (endRow_len he) (by decide)
   generalize cmpV v x.v=n at HR ⊢
   obtain ⟨y1,y2,c0,c1,c2,c3,c4,c5,c6⟩:=HR2.out
   obtain ⟨v1,v2,g0,g1,g2,g3,g4⟩:=HV2.out
   go_wp2_with fail
   refine (refCaret_any x.v x.A x.c x.B x.d W2).mono ?_
   rintro e W3 ⟨Q,qc,rfl,hrow,hbu,hb⟩
   have HQ:=Lib.hid hrow
   have HB3:=Lib.hid (HB2.out.trans (hb.mono HB2.out.size))
   have HV3:=Lib.hid (HV2.out.kept hb HV2.out.1)
   clear hb hrow y1 y2 c0 c1 c2 c3 c4 c5 c6 v1 v2 g0 g1 g2 g3 g4
   generalize caretV x.v=oe at HR HEG HEL HQ hbu ⊢
   cases oe with
   | none =>
    by_cases h0:0≤n
    ·go_wp2
     go_ret
     exact ⟨by rw [HR.out,decide_eq_true h0]; rfl,HB3.out.alloc HB3.out.size _⟩
    ·go_wp2
     go_ret
     exact ⟨by rw [HR.out,decide_eq_false (p:=0≤n) (by omega)]; rfl,HB3.out.alloc HB3.out.size _⟩
   | some u =>
    obtain ⟨ua,ub,uc,up,ul⟩:=u
    obtain rfl:ul=[]:=hbu
    simp only [show ∀ u,verOf (some u)=u from fun _=>rfl] at HQ ⊢
    by_cases h0:0≤n
    ·go_upto_region 17 with (fail)
     have HB4:Hid (Below w.heap.size w (W3.alloc (.cells #[.int .u64 ua,.int .u64 ub,.int .u64 uc,.slice Q up.length qc,.slice none 0 0] 34))):=HB3.out.alloc HB3.out.size _
     have HV4:=Lib.hid (HV3.out.kept ((Below.refl _ _).alloc (Nat.le_refl _) (.cells #[.int .u64 ua,.int .u64 ub,.int .u64 uc,.slice Q up.length qc,.slice none 0 0] 34)) HV3.out.1)
     have HU:=Lib.hid (At5.new W3 34 (.int .u64 ua) (.int .u64 ub) (.int .u64 uc) (.slice Q up.length qc) (.slice none 0 0))
     have HQ4:=Lib.hid (HQ.out.kept ((Below.refl _ _).alloc (Nat.le_refl _) (.cells #[.int .u64 ua,.int .u64 ub,.int .u64 uc,.slice Q up.length qc,.slice none 0 0] 34)))
     have hul:up.length≤maxLen:=HEL.out ⟨ua,ub,uc,up,[]⟩ rfl
     obtain ⟨gu,hgu⟩:∃ g,W3.heap.size=g:=⟨_,rfl⟩
     generalize W3.alloc (.cells #[.int .u64 ua,.int .u64 ub,.int .u64 uc,.slice Q up.length qc,.slice none 0 0] 34)=W4 at HB4 HV4 HU HQ4 ⊢
     rw [hgu] at HU ⊢
     clear hgu
     obtain ⟨v1,v2,g0,g1,g2,g3,g4⟩:=HV4.out
     obtain ⟨w1,w2,l0,l1,l2,l3,l4⟩:=HU.out
     go_wp2_with fail
     refine (refCompare_any v ⟨ua,ub,uc,up,[]⟩ A E Q none c d qc 0 W4 (HS1.out.kept HB4.out) HQ4.out HP.out hul HI.out (HEG.out _ rfl)).mono ?_
     rintro e W5 ⟨rfl,hb⟩
     have HB5:=Lib.hid (HB4.out.trans (hb.mono HB4.out.size))
     clear hb v1 v2 g0 g1 g2 g3 g4 w1 w2 l0 l1 l2 l3 l4
     go_wp2
     go_ret
     exact ⟨by rw [HR.out,decide_eq_true h0]; rfl,HB5.out⟩
    ·go_wp2
     go_ret
     exact ⟨by rw [HR.out,decide_eq_false (p:=0≤n) (by omega)]; rfl,HB3.out.alloc HB3.out.size _⟩
  ·have HK:=Lib.hid hK
   have HE2:Hid (r=.mk 8 x.v r.subs):=by have:=HE.out; rw [hK] at this; exact this
   clear hK
   have q1:(x.kind == 1)=false:=by rw [HK.out]; rfl
   have q2:(x.kind == 2)=false:=by rw [HK.out]; rfl
   have q3:(x.kind == 3)=false:=by rw [HK.out]; rfl
   have q4:(x.kind == 4)=false:=by rw [HK.out]; rfl
   have q5:(x.kind == 5)=false:=by rw [HK.out]; rfl
   have q6:(x.kind == 6)=false:=by rw [HK.out]; rfl
   have q7:(x.kind == 7)=false:=by rw [HK.out]; rfl
   have q8:(x.kind == 8)=true:=by rw [HK.out]; rfl
   have HR:Hid (inV r v=(decide (0≤cmpV v x.v) && hereV (tildeV x.v) v)):=by unfold Hid; rw [HE2.out,inV_eq]; rfl
   have HEG:Hid (∀ e,tildeV x.v=some e→∀ y ∈ e.pre,y.length≤1000):=fun e he=>good_ids (end_good hgv he).1
   have HEL:Hid (∀ e,tildeV x.v=some e→e.pre.length≤maxLen):=fun e he=>Nat.le_trans (endRow_len he) (by decide)
   generalize cmpV v x.v=n at HR ⊢
   obtain ⟨y1,y2,c0,c1,c2,c3,c4,c5,c6⟩:=HR2.out
   obtain ⟨v1,v2,g0,g1,g2,g3,g4⟩:=HV2.out
   go_wp2_with fail
   refine (refTilde_any x.v x.A x.c x.B x.d W2).mono ?_
   rintro e W3 ⟨Q,qc,rfl,hrow,hbu,hb⟩
   have HQ:=Lib.hid hrow
   have HB3:=Lib.hid (HB2.out.trans (hb.mono HB2.out.size))
   have HV3:=Lib.hid (HV2.out.kept hb HV2.out.1)
   clear hb hrow y1 y2 c0 c1 c2 c3 c4 c5 c6 v1 v2 g0 g1 g2 g3 g4
   generalize tildeV x.v=oe at HR HEG HEL HQ hbu ⊢
   cases oe with
   | none =>
    by_cases h0:0≤n
    ·go_wp2
     go_ret
     exact ⟨by rw [HR.out,decide_eq_true h0]; rfl,HB3.out.alloc HB3.out.size _⟩
    ·go_wp2
     go_ret
     exact ⟨by rw [HR.out,decide_eq_false (p:=0≤n) (by omega)]; rfl,HB3.out.alloc HB3.out.size _⟩
   | some u =>
    obtain ⟨ua,ub,uc,up,ul⟩:=u
    obtain rfl:ul=[]:=hbu
    simp only [show ∀ u,verOf (some u)=u from fun _=>rfl] at HQ ⊢
    by_cases h0:0≤n
    ·go_upto_region 20 with (fail)
     have HB4:Hid (Below w.heap.size w (W3.alloc (.cells #[.int .u64 ua,.int .u64 ub,.int .u64 uc,.slice Q up.length qc,.slice none 0 0] 34))):=HB3.out.alloc HB3.out.size _
     have HV4:=Lib.hid (HV3.out.kept ((Below.refl _ _).alloc (Nat.le_refl _) (.cells #[.int .u64 ua,.int .u64 ub,.int .u64 uc,.slice Q up.length qc,.slice none 0 0] 34)) HV3.out.1)
     have HU:=Lib.hid (At5.new W3 34 (.int .u64 ua) (.int .u64 ub) (.int .u64 uc) (.slice Q up.length qc) (.slice none 0 0))
     have HQ4:=Lib.hid (HQ.out.kept ((Below.refl _ _).alloc (Nat.le_refl _) (.cells #[.int .u64 ua,.int .u64 ub,.int .u64 uc,.slice Q up.length qc,.slice none 0 0] 34)))
     have hul:up.length≤maxLen:=HEL.out ⟨ua,ub,uc,up,[]⟩ rfl
     obtain ⟨gu,hgu⟩:∃ g,W3.heap.size=g:=⟨_,rfl⟩
     generalize W3.alloc (.cells #[.int .u64 ua,.int .u64 ub,.int .u64 uc,.slice Q up.length qc,.slice none 0 0] 34)=W4 at HB4 HV4 HU HQ4 ⊢
     rw [hgu] at HU ⊢
     clear hgu
     obtain ⟨v1,v2,g0,g1,g2,g3,g4⟩:=HV4.out
     obtain ⟨w1,w2,l0,l1,l2,l3,l4⟩:=HU.out
     go_wp2_with fail
     refine (refCompare_any v ⟨ua,ub,uc,up,[]⟩ A E Q none c d qc 0 W4 (HS1.out.kept HB4.out) HQ4.out HP.out hul HI.out (HEG.out _ rfl)).mono ?_
     rintro e W5 ⟨rfl,hb⟩
     have HB5:=Lib.hid (HB4.out.trans (hb.mono HB4.out.size))
     clear hb v1 v2 g0 g1 g2 g3 g4 w1 w2 l0 l1 l2 l3 l4
     go_wp2
     go_ret
     exact ⟨by rw [HR.out,decide_eq_true h0]; rfl,HB5.out⟩
    ·go_wp2
     go_ret
     exact ⟨by rw [HR.out,decide_eq_false (p:=0≤n) (by omega)]; rfl,HB3.out.alloc HB3.out.size _⟩
 ·have HK:=Lib.hid hK
  have HE2:Hid (r=.mk 0 x.v r.subs):=by have:=HE.out; rw [hK] at this; exact this
  clear hK
  have q1:(x.kind == 1)=false:=by rw [HK.out]; rfl
  have q2:(x.kind == 2)=false:=by rw [HK.out]; rfl
  have q3:(x.kind == 3)=false:=by rw [HK.out]; rfl
  have q4:(x.kind == 4)=false:=by rw [HK.out]; rfl
  have q5:(x.kind == 5)=false:=by rw [HK.out]; rfl
  have q6:(x.kind == 6)=false:=by rw [HK.out]; rfl
  have q7:(x.kind == 7)=false:=by rw [HK.out]; rfl
  have q8:(x.kind == 8)=false:=by rw [HK.out]; rfl
  have q9:(x.kind == 9)=false:=by rw [HK.out]; rfl
  have q10:(x.kind == 10)=false:=by rw [HK.out]; rfl
  have q11:(x.kind == 11)=false:=by rw [HK.out]; rfl
  have q12:(x.kind != 10)=true:=by rw [bne,q10]; rfl
  have HR:Hid (inV r v=true):=by unfold Hid; rw [HE2.out,inV_eq]; rfl
  have HN:=Lib.hid hn
  clear hn
  obtain ⟨y1,y2,c0,c1,c2,c3,c4,c5,c6⟩:=HR2.out
  obtain ⟨v1,v2,g0,g1,g2,g3,g4⟩:=HV2.out
  go_wp2
  go_loopw [10] (fun iv W'=>∃ k:Nat,k≤x.n∧iv=.int .i64 k∧Hid (Below W2.heap.size W2 W')) (fun iv _=>x.n - (intOf iv).toNat)
  case atStart=>exact ⟨0,Nat.zero_le _,rfl,Below.refl _ _⟩
  case round =>
   obtain ⟨k,hk,rfl,HB3⟩:=hrel
   have HR3:=Lib.hid (HR2.out.kept HB3.out HR2.out.1)
   have HV3:=Lib.hid (HV2.out.kept HB3.out HV2.out.1)
   clear y1 y2 c0 c1 c2 c3 c4 c5 c6 v1 v2 g0 g1 g2 g3 g4
   obtain ⟨y1,y2,c0,c1,c2,c3,c4,c5,c6⟩:=HR3.out
   obtain ⟨v1,v2,g0,g1,g2,g3,g4⟩:=HV3.out
   by_cases hlt:k<x.n
   ·exfalso; have:=HN.out; omega
   ·obtain rfl:k=x.n:=by omega
    have HF:Hid (inV r v=true):=HR.out
    go_wp2
    go_ret
    exact ⟨by rw [HF.out]; rfl,HB2.out.trans (HB3.out.mono HB2.out.size)⟩
 ·have HK:=Lib.hid hK
  have HE2:Hid (r=.mk 9 x.v r.subs):=by have:=HE.out; rw [hK] at this; exact this
  clear hK
  have q1:(x.kind == 1)=false:=by rw [HK.out]; rfl
  have q2:(x.kind == 2)=false:=by rw [HK.out]; rfl
  have q3:(x.kind == 3)=false:=by rw [HK.out]; rfl
  have q4:(x.kind == 4)=false:=by rw [HK.out]; rfl
  have q5:(x.kind == 5)=false:=by rw [HK.out]; rfl
  have q6:(x.kind == 6)=false:=by rw [HK.out]; rfl
  have q7:(x.kind == 7)=false:=by rw [HK.out]; rfl
  have q8:(x.kind == 8)=false:=by rw [HK.out]; rfl
  have q9:(x.kind == 9)=true:=by rw [HK.out]; rfl
  have q10:(x.kind == 10)=false:=by rw [HK.out]; rfl
  have q11:(x.kind == 11)=false:=by rw [HK.out]; rfl
  have q12:(x.kind != 10)=true:=by rw [bne,q10]; rfl
  have HR:Hid (inV r v=allV r.subs v):=by unfold Hid; rw [HE2.out,inV_eq]; rfl
  obtain ⟨y1,y2,c0,c1,c2,c3,c4,c5,c6⟩:=HR2.out
  obtain ⟨v1,v2,g0,g1,g2,g3,g4⟩:=HV2.out
  go_wp2
  go_loopw [10] (fun iv W'=>∃ k:Nat,k≤x.n∧iv=.int .i64 k∧Hid (Below W2.heap.size W2 W')∧Hid (∀ j,j<k→inV (r.subs.getD j noRng) v=true)) (fun iv _=>x.n - (intOf iv).toNat)
  case atStart=>exact ⟨0,Nat.zero_le _,rfl,Below.refl _ _,fun j hj=>absurd hj (Nat.not_lt_zero j)⟩
  case round =>
   obtain ⟨k,hk,rfl,HB3,HQ⟩:=hrel
   have HR3:=Lib.hid (HR2.out.kept HB3.out HR2.out.1)
   have HV3:=Lib.hid (HV2.out.kept HB3.out HV2.out.1)
   clear y1 y2 c0 c1 c2 c3 c4 c5 c6 v1 v2 g0 g1 g2 g3 g4
   obtain ⟨y1,y2,c0,c1,c2,c3,c4,c5,c6⟩:=HR3.out
   obtain ⟨v1,v2,g0,g1,g2,g3,g4⟩:=HV3.out
   by_cases hlt:k<x.n
   ·obtain ⟨b,o,y,hLe,hSb,hcl,hcy⟩:=HL2.out.says.subs.one hlt
    have hll:k<r.subs.length:=by rw [HLN.out]; exact hlt
    have hwt:=wt_mem (get_mem hll)
    have hlo:=HLO.out.sub (get_mem hll)
    have HGk:=Lib.hid (Range.goodL_mem HGL.out (get_mem hll))
    obtain ⟨u,hu⟩:∃ u,u=r.subs.getD k noRng:=⟨_,rfl⟩
    have HIV:Hid (inV (r.subs.getD k noRng) v=inV u v):=by unfold Hid; rw [hu]
    rw [← hu] at hcy hwt hlo HGk
    have HCx:Hid (CellsAt wr b (o+k * 7) y):=hcl.keep (KeepS.of_below (S:=LtB B) HB3.out) hSb
    have HLc:Hid (Range.Lies wr (LtB B) u y):=hcy.keep (KeepS.of_below (S:=LtB B) HB3.out)
    have HBx:=Lib.hid (HB2.out.trans (HB3.out.mono HB2.out.size))
    have hBx:B≤wr.heap.size:=Nat.le_trans hB2 HB3.out.size
    have HRx:=HR3
    have HVx:=HV3
    have HW3:=HB3
    clear hcl hcy hu HR3 HV3 HB3
    rw [hLe] at c6 ⊢
    go_upto_region 26 with (fail)
    clear y1 y2 c0 c1 c2 c3 c4 c5 c6 v1 v2 g0 g1 g2 g3 g4
    replace HBx:Hid (Below w.heap.size w wr.drew):=HBx.out.drew
    replace HRx:Hid (RAt wr.drew w.heap.size x):=HRx.out
    replace HVx:Hid (At5 wr.drew (w.heap.size+1) v.a v.b v.c (.slice A v.pre.length c) (.slice E v.build.length d)):=HVx.out
    replace HCx:Hid (CellsAt wr.drew b (o+k * 7) y):=HCx.out
    replace HLc:Hid (Range.Lies wr.drew (LtB B) u y):=HLc.out.keep (KeepS.of_below (S:=LtB B) (Below.refl _ _).drew)
    refine wp_region_held_drew (S:=fun w'=>RAt w' w.heap.size x∧At5 w' (w.heap.size+1) v.a v.b v.c (.slice A v.pre.length c) (.slice E v.build.length d)∧CellsAt w' b (o+k * 7) y) (by kernel_rfl) ⟨HRx.out,HVx.out,HCx.out⟩ (fun hHeld=>?_)
    have hBV:B≤wr.drew.heap.size:=hBx
    replace HW3:Hid (Below W2.heap.size W2 wr.drew):=HW3.out.drew
    generalize wr.drew=V at HW3 HBx HRx HVx HCx HLc hBV hHeld ⊢
    refine tk 0 rfl (.pointer (some ⟨w.heap.size,6,none⟩)) ?_
    refine tk 1 rfl (.slice (some ⟨b,o,none⟩) x.n x.e) ?_ fun w' hS'=>by obtain ⟨y1,y2,c0,c1,c2,c3,c4,c5,c6⟩:=hS'.1; rw [hLe] at c6; go_simp
    refine tk 2 rfl (.int .i64 k) ?_
    refine tk 3 rfl (.pointer (some ⟨b,o+k * 7,none⟩)) ?_
    refine tk 4 rfl y ?_ fun w' hS'=>by obtain ⟨e0,e1,e2,e3,e4,e5,e6⟩:=hS'.2.2.cells; go_simp
    refine tk 5 rfl (.agg #[v.a,v.b,v.c,.slice A v.pre.length c,.slice E v.build.length d]) ?_ fun w' hS'=>by obtain ⟨v1,v2,g0,g1,g2,g3,g4⟩:=hS'.2.1; go_simp
    refine cl 6 rfl fun K hK=>?_
    go_simp
    refine (IH.out u y B _ V (by omega) hlo HLc.out hBV HGk.out (HS1.out.kept HBx.out) (HS2.out.kept HBx.out)).mono ?_
    rintro e V1 ⟨rfl,hb⟩
    have HB4:=Lib.hid (HBx.out.trans (hb.mono HBx.out.size))
    have HR4:=Lib.hid (HRx.out.kept hb HRx.out.1)
    have HV4:=Lib.hid (HVx.out.kept hb HVx.out.1)
    have HC4:Hid (CellsAt V1 b (o+k * 7) y):=HCx.out.keep (KeepS.of_below (S:=fun _=>True) hb) trivial
    have hbx:=hb
    clear hb hHeld
    refine hK.out _ _ ⟨HR4.out,HV4.out,HC4.out⟩ (fun hHeld=>?_)
    clear hK K
    try simp only [Act.put,p1,p2,p3]
    generalize inV u v=z at HIV ⊢
    refine tk 7 rfl (.bool z) ?_
    refine wpAnyH_done (by kernel_rfl) ?_ _
    have HB5:=Lib.hid (HW3.out.trans (hbx.mono HW3.out.size))
    obtain ⟨y1,y2,c0,c1,c2,c3,c4,c5,c6⟩:=HR4.out
    cases z
    ·have HF:Hid (inV r v=false):=HR.out.trans (allV_no hll HIV.out)
     go_wp2
     go_ret
     exact ⟨by rw [HF.out]; rfl,HB4.out⟩
    ·go_wp2
     exact ⟨⟨k+1,by omega,by go_num,HB5.out,fun j hj=>by
      by_cases hjk:j=k
      ·subst hjk; exact HIV.out
      ·exact HQ.out j (by omega)⟩,by simp [intOf]; omega⟩
   ·obtain rfl:k=x.n:=by omega
    have HF:Hid (inV r v=true):=HR.out.trans (allV_yes fun j hj=>HQ.out j (by rw [← HLN.out]; exact hj))
    go_wp2
    go_ret
    exact ⟨by rw [HF.out]; rfl,HB2.out.trans (HB3.out.mono HB2.out.size)⟩
 ·have HK:=Lib.hid hK
  have HE2:Hid (r=.mk 10 x.v r.subs):=by have:=HE.out; rw [hK] at this; exact this
  clear hK
  have q1:(x.kind == 1)=false:=by rw [HK.out]; rfl
  have q2:(x.kind == 2)=false:=by rw [HK.out]; rfl
  have q3:(x.kind == 3)=false:=by rw [HK.out]; rfl
  have q4:(x.kind == 4)=false:=by rw [HK.out]; rfl
  have q5:(x.kind == 5)=false:=by rw [HK.out]; rfl
  have q6:(x.kind == 6)=false:=by rw [HK.out]; rfl
  have q7:(x.kind == 7)=false:=by rw [HK.out]; rfl
  have q8:(x.kind == 8)=false:=by rw [HK.out]; rfl
  have q9:(x.kind == 9)=false:=by rw [HK.out]; rfl
  have q10:(x.kind == 10)=true:=by rw [HK.out]; rfl
  have q11:(x.kind == 11)=false:=by rw [HK.out]; rfl
  have q12:(x.kind != 10)=false:=by rw [bne,q10]; rfl
  have HR:Hid (inV r v=anyV r.subs v):=by unfold Hid; rw [HE2.out,inV_eq]; rfl
  obtain ⟨y1,y2,c0,c1,c2,c3,c4,c5,c6⟩:=HR2.out
  obtain ⟨v1,v2,g0,g1,g2,g3,g4⟩:=HV2.out
  go_wp2
  go_loopw [10] (fun iv W'=>∃ k:Nat,k≤x.n∧iv=.int .i64 k∧Hid (Below W2.heap.size W2 W')∧Hid (∀ j,j<k→inV (r.subs.getD j noRng) v=false)) (fun iv _=>x.n - (intOf iv).toNat)
  case atStart=>exact ⟨0,Nat.zero_le _,rfl,Below.refl _ _,fun j hj=>absurd hj (Nat.not_lt_zero j)⟩
  case round =>
   obtain ⟨k,hk,rfl,HB3,HQ⟩:=hrel
   have HR3:=Lib.hid (HR2.out.kept HB3.out HR2.out.1)
   have HV3:=Lib.hid (HV2.out.kept HB3.out HV2.out.1)
   clear y1 y2 c0 c1 c2 c3 c4 c5 c6 v1 v2 g0 g1 g2 g3 g4
   obtain ⟨y1,y2,c0,c1,c2,c3,c4,c5,c6⟩:=HR3.out
   obtain ⟨v1,v2,g0,g1,g2,g3,g4⟩:=HV3.out
   by_cases hlt:k<x.n
   ·obtain ⟨b,o,y,hLe,hSb,hcl,hcy⟩:=HL2.out.says.subs.one hlt
    have hll:k<r.subs.length:=by rw [HLN.out]; exact hlt
    have hwt:=wt_mem (get_mem hll)
    have hlo:=HLO.out.sub (get_mem hll)
    have HGk:=Lib.hid (Range.goodL_mem HGL.out (get_mem hll))
    obtain ⟨u,hu⟩:∃ u,u=r.subs.getD k noRng:=⟨_,rfl⟩
    have HIV:Hid (inV (r.subs.getD k noRng) v=inV u v):=by unfold Hid; rw [hu]
    rw [← hu] at hcy hwt hlo HGk
    have HCx:Hid (CellsAt wr b (o+k * 7) y):=hcl.keep (KeepS.of_below (S:=LtB B) HB3.out) hSb
    have HLc:Hid (Range.Lies wr (LtB B) u y):=hcy.keep (KeepS.of_below (S:=LtB B) HB3.out)
    have HBx:=Lib.hid (HB2.out.trans (HB3.out.mono HB2.out.size))
    have hBx:B≤wr.heap.size:=Nat.le_trans hB2 HB3.out.size
    have HRx:=HR3
    have HVx:=HV3
    have HW3:=HB3
    clear hcl hcy hu HR3 HV3 HB3
    rw [hLe] at c6 ⊢
    go_upto_region 26 with (fail)
    clear y1 y2 c0 c1 c2 c3 c4 c5 c6 v1 v2 g0 g1 g2 g3 g4
    replace HBx:Hid (Below w.heap.size w wr.drew):=HBx.out.drew
    replace HRx:Hid (RAt wr.drew w.heap.size x):=HRx.out
    replace HVx:Hid (At5 wr.drew (w.heap.size+1) v.a v.b v.c (.slice A v.pre.length c) (.slice E v.build.length d)):=HVx.out
    replace HCx:Hid (CellsAt wr.drew b (o+k * 7) y):=HCx.out
    replace HLc:Hid (Range.Lies wr.drew (LtB B) u y):=HLc.out.keep (KeepS.of_below (S:=LtB B) (Below.refl _ _).drew)
    refine wp_region_held_drew (S:=fun w'=>RAt w' w.heap.size x∧At5 w' (w.heap.size+1) v.a v.b v.c (.slice A v.pre.length c) (.slice E v.build.length d)∧CellsAt w' b (o+k * 7) y) (by kernel_rfl) ⟨HRx.out,HVx.out,HCx.out⟩ (fun hHeld=>?_)
    have hBV:B≤wr.drew.heap.size:=hBx
    replace HW3:Hid (Below W2.heap.size W2 wr.drew):=HW3.out.drew
    generalize wr.drew=V at HW3 HBx HRx HVx HCx HLc hBV hHeld ⊢
    refine tk 0 rfl (.pointer (some ⟨w.heap.size,6,none⟩)) ?_
    refine tk 1 rfl (.slice (some ⟨b,o,none⟩) x.n x.e) ?_ fun w' hS'=>by obtain ⟨y1,y2,c0,c1,c2,c3,c4,c5,c6⟩:=hS'.1; rw [hLe] at c6; go_simp
    refine tk 2 rfl (.int .i64 k) ?_
    refine tk 3 rfl (.pointer (some ⟨b,o+k * 7,none⟩)) ?_
    refine tk 4 rfl y ?_ fun w' hS'=>by obtain ⟨e0,e1,e2,e3,e4,e5,e6⟩:=hS'.2.2.cells; go_simp
    refine tk 5 rfl (.agg #[v.a,v.b,v.c,.slice A v.pre.length c,.slice E v.build.length d]) ?_ fun w' hS'=>by obtain ⟨v1,v2,g0,g1,g2,g3,g4⟩:=hS'.2.1; go_simp
    refine cl 6 rfl fun K hK=>?_
    go_simp
    refine (IH.out u y B _ V (by omega) hlo HLc.out hBV HGk.out (HS1.out.kept HBx.out) (HS2.out.kept HBx.out)).mono ?_
    rintro e V1 ⟨rfl,hb⟩
    have HB4:=Lib.hid (HBx.out.trans (hb.mono HBx.out.size))
    have HR4:=Lib.hid (HRx.out.kept hb HRx.out.1)
    have HV4:=Lib.hid (HVx.out.kept hb HVx.out.1)
    have HC4:Hid (CellsAt V1 b (o+k * 7) y):=HCx.out.keep (KeepS.of_below (S:=fun _=>True) hb) trivial
    have hbx:=hb
    clear hb hHeld
    refine hK.out _ _ ⟨HR4.out,HV4.out,HC4.out⟩ (fun hHeld=>?_)
    clear hK K
    try simp only [Act.put,p1,p2,p3]
    generalize inV u v=z at HIV ⊢
    refine tk 7 rfl (.bool z) ?_
    refine wpAnyH_done (by kernel_rfl) ?_ _
    have HB5:=Lib.hid (HW3.out.trans (hbx.mono HW3.out.size))
    obtain ⟨y1,y2,c0,c1,c2,c3,c4,c5,c6⟩:=HR4.out
    cases z
    ·go_wp2
     exact ⟨⟨k+1,by omega,by go_num,HB5.out,fun j hj=>by
      by_cases hjk:j=k
      ·subst hjk; exact HIV.out
      ·exact HQ.out j (by omega)⟩,by simp [intOf]; omega⟩
    ·have HF:Hid (inV r v=true):=HR.out.trans (anyV_some hll HIV.out)
     go_wp2
     go_ret
     exact ⟨by rw [HF.out]; rfl,HB4.out⟩
   ·obtain rfl:k=x.n:=by omega
    have HF:Hid (inV r v=false):=HR.out.trans (anyV_no fun j hj=>HQ.out j (by rw [← HLN.out]; exact hj))
    go_wp2
    go_ret
    exact ⟨by rw [HF.out]; rfl,HB2.out.trans (HB3.out.mono HB2.out.size)⟩
 ·have HK:=Lib.hid hK
  have HE2:Hid (r=.mk 11 x.v r.subs):=by have:=HE.out; rw [hK] at this; exact this
  clear hK
  have q1:(x.kind == 1)=false:=by rw [HK.out]; rfl
  have q2:(x.kind == 2)=false:=by rw [HK.out]; rfl
  have q3:(x.kind == 3)=false:=by rw [HK.out]; rfl
  have q4:(x.kind == 4)=false:=by rw [HK.out]; rfl
  have q5:(x.kind == 5)=false:=by rw [HK.out]; rfl
  have q6:(x.kind == 6)=false:=by rw [HK.out]; rfl
  have q7:(x.kind == 7)=false:=by rw [HK.out]; rfl
  have q8:(x.kind == 8)=false:=by rw [HK.out]; rfl
  have q9:(x.kind == 9)=false:=by rw [HK.out]; rfl
  have q10:(x.kind == 10)=false:=by rw [HK.out]; rfl
  have q11:(x.kind == 11)=true:=by rw [HK.out]; rfl
  obtain ⟨u,hu⟩:=List.length_eq_one_iff.1 (HLN.out.trans hn)
  have HR:Hid (inV r v=!inV u v):=by unfold Hid; rw [HE2.out,inV_eq,hu]; rfl
  obtain ⟨b,o,y,hLe,hSb,hcl,hcy⟩:=HL2.out.says.subs.one (show 0<x.n by omega)
  have hmem:u ∈ r.subs:=by rw [hu]; exact List.mem_singleton.2 rfl
  have hwt:=Range.wt_mem hmem
  have hlo:=HLO.out.sub hmem
  have HGk:=Lib.hid (Range.goodL_mem HGL.out hmem)
  have HIV:=HR
  rw [hu] at hcy
  have HLc:Hid (Range.Lies W2 (LtB B) u y):=hcy
  simp only [Nat.zero_mul,Nat.add_zero] at hcl
  have HCx:Hid (CellsAt W2 b o y):=hcl
  have HBx:=HB2
  have hBx:=hB2
  have HRx:=HR2
  have HVx:=HV2
  obtain ⟨y1,y2,c0,c1,c2,c3,c4,c5,c6⟩:=HR2.out
  obtain ⟨v1,v2,g0,g1,g2,g3,g4⟩:=HV2.out
  have HN:=Lib.hid hn
  have hn0:0<x.n:=by omega
  clear hcl hcy hmem hu hn HR2 HV2 HB2
  rw [hLe] at c6
  go_upto_region 22 with (fail)
  clear y1 y2 c0 c1 c2 c3 c4 c5 c6 v1 v2 g0 g1 g2 g3 g4
  replace HBx:Hid (Below w.heap.size w W2.drew):=HBx.out.drew
  replace HRx:Hid (RAt W2.drew w.heap.size x):=HRx.out
  replace HVx:Hid (At5 W2.drew (w.heap.size+1) v.a v.b v.c (.slice A v.pre.length c) (.slice E v.build.length d)):=HVx.out
  replace HCx:Hid (CellsAt W2.drew b (o) y):=HCx.out
  replace HLc:Hid (Range.Lies W2.drew (LtB B) u y):=HLc.out.keep (KeepS.of_below (S:=LtB B) (Below.refl _ _).drew)
  refine wp_region_held_drew (S:=fun w'=>RAt w' w.heap.size x∧At5 w' (w.heap.size+1) v.a v.b v.c (.slice A v.pre.length c) (.slice E v.build.length d)∧CellsAt w' b (o) y) (by kernel_rfl) ⟨HRx.out,HVx.out,HCx.out⟩ (fun hHeld=>?_)
  have hBV:B≤W2.drew.heap.size:=hBx
  generalize W2.drew=V at HBx HRx HVx HCx HLc hBV hHeld ⊢
  refine tk 0 rfl (.pointer (some ⟨w.heap.size,6,none⟩)) ?_
  refine tk 1 rfl (.slice (some ⟨b,o,none⟩) x.n x.e) ?_ fun w' hS'=>by obtain ⟨y1,y2,c0,c1,c2,c3,c4,c5,c6⟩:=hS'.1; rw [hLe] at c6; go_simp
  refine tk 2 rfl (.pointer (some ⟨b,o,none⟩)) ?_
  refine tk 3 rfl y ?_ fun w' hS'=>by obtain ⟨e0,e1,e2,e3,e4,e5,e6⟩:=hS'.2.2.cells; go_simp
  refine tk 4 rfl (.agg #[v.a,v.b,v.c,.slice A v.pre.length c,.slice E v.build.length d]) ?_ fun w' hS'=>by obtain ⟨v1,v2,g0,g1,g2,g3,g4⟩:=hS'.2.1; go_simp
  refine cl 5 rfl fun K hK=>?_
  go_simp
  refine (IH.out u y B _ V (by omega) hlo HLc.out hBV HGk.out (HS1.out.kept HBx.out) (HS2.out.kept HBx.out)).mono ?_
  rintro e V1 ⟨rfl,hb⟩
  have HB4:=Lib.hid (HBx.out.trans (hb.mono HBx.out.size))
  have HR4:=Lib.hid (HRx.out.kept hb HRx.out.1)
  have HV4:=Lib.hid (HVx.out.kept hb HVx.out.1)
  have HC4:Hid (CellsAt V1 b (o) y):=HCx.out.keep (KeepS.of_below (S:=fun _=>True) hb) trivial
  have hbx:=hb
  clear hb hHeld
  refine hK.out _ _ ⟨HR4.out,HV4.out,HC4.out⟩ (fun hHeld=>?_)
  clear hK K
  try simp only [Act.put,p1,p2,p3]
  generalize inV u v=z at HIV HR ⊢
  refine tk 6 rfl (.bool (!z)) ?_
  refine tk 7 rfl (.bool (!z)) ?_
  refine wpAnyH_done (by kernel_rfl) ?_ _
  go_wp2
  go_ret
  exact ⟨by rw [HIV.out]; rfl,HB4.out⟩
theorem in_any (v:Ver) (A:Option Addr) (c:Nat) (E:Option Addr) (d:Nat) (hp:v.pre.length≤maxLen) (hids:∀ x ∈ v.pre,x.length≤1000):∀ m,InAt v A c E d m
 | 0=>fun r x B q w hm _ hx hB hg _ _=>by rw [Range.wt_eq] at hm; omega
 | m+1=>in_step v A c E d hp hids m (in_any v A c E d hp hids m)
end Go.Proofs.YtnpjklaaokiikaaGreatDoor.Nrm
namespace Go.Proofs.YtnpjklaaokiikaaGreatDoor.Model
open Go.RowKit Num Ident Semver
open Range (Rng noRng RV KeepS LtB InS LenOk FitV srow_keepS)
open KR (KRow)

structure MDep where
 name:List UInt8
 r:Rng
 x:RV
instance:Inhabited MDep:=⟨⟨[],noRng,default⟩⟩
def MDep.vals (d:MDep):List Value:=.string (Ident.mk d.name) :: d.x.vals
def MDep.p (d:MDep):PDep:=⟨d.name,d.r⟩
def MDep.agg (d:MDep):Value:=.agg #[.string (Ident.mk d.name),d.x.kind,d.x.v.a,d.x.v.b,d.x.v.c,.slice d.x.A d.x.v.pre.length d.x.c,.slice d.x.B d.x.v.build.length d.x.d,.slice d.x.L d.x.n d.x.e]
theorem dep_one (d:MDep):∀ u ∈ d.vals,u.oneCell'=true:=by
 intro u hu
 rcases List.mem_cons.1 hu with rfl | hu
 ·rfl
 ·exact Range.rv_one d.x u hu
theorem depInfo:(Tryz.prog.info? 57).map (fun i=>(i.zero,i.size,i.bytes))=some (some (.agg #[.string ⟨#[]⟩,.int .i64 0,.int .u64 0,.int .u64 0,.int .u64 0,.slice none 0 0,.slice none 0 0,.slice none 0 0]),8,120):=by kernel_rfl
theorem dep_len (d:MDep):d.vals.length=8:=rfl
structure DepOk (w:World) (S:Nat→Prop) (d:MDep):Prop where
 short:d.name.length≤maxLen
 lies:Range.Lies w S d.r d.x
 len:LenOk d.r
 slim:Nrm.Slim d.r
theorem DepOk.keep {w w':World} {S:Nat→Prop} {d:MDep} (h:DepOk w S d) (k:KeepS S w w'):DepOk w' S d:=⟨h.short,h.lies.keep k,h.len,h.slim⟩
theorem DepOk.mono {w:World} {S S':Nat→Prop} {d:MDep} (h:DepOk w S d) (hS:∀ b,S b→b<w.heap.size→S' b):DepOk w S' d:=⟨h.short,h.lies.mono hS,h.len,h.slim⟩
structure DRow (w:World) (S:Nat→Prop) (A:Option Addr) (n:Nat) (l:List MDep):Prop where
 row:KRow MDep.vals 8 w S A n l
 ok:∀ d ∈ l,DepOk w S d
theorem DRow.keep {w w':World} {S:Nat→Prop} {A:Option Addr} {n:Nat} {l:List MDep} (h:DRow w S A n l) (k:KeepS S w w'):DRow w' S A n l:=⟨h.row.keep k,fun d hd=>(h.ok d hd).keep k⟩
theorem DRow.mono {w:World} {S S':Nat→Prop} {A:Option Addr} {n:Nat} {l:List MDep} (h:DRow w S A n l) (hS:∀ b,S b→b<w.heap.size→S' b):DRow w S' A n l:=⟨h.row.mono hS,fun d hd=>(h.ok d hd).mono hS⟩
structure MVer where
 v:Ver
 A:Option Addr
 c:Nat
 B:Option Addr
 d:Nat
instance:Inhabited MVer:=⟨⟨noVer,none,0,none,0⟩⟩
def MVer.vals (x:MVer):List Value:=[.int .u64 x.v.a,.int .u64 x.v.b,.int .u64 x.v.c,.slice x.A x.v.pre.length x.c,.slice x.B x.v.build.length x.d]
def MVer.agg (x:MVer):Value:=.agg #[x.v.a,x.v.b,x.v.c,.slice x.A x.v.pre.length x.c,.slice x.B x.v.build.length x.d]
structure VerOk (w:World) (S:Nat→Prop) (x:MVer):Prop where
 pre:SRow w x.A x.v.pre.length x.v.pre
 build:SRow w x.B x.v.build.length x.v.build
 ip:InS S x.A x.v.pre.length
 ib:InS S x.B x.v.build.length
 cp:x.v.pre.length≤x.c
 cb:x.v.build.length≤x.d
 fit:FitV x.v
theorem VerOk.keep {w w':World} {S:Nat→Prop} {x:MVer} (h:VerOk w S x) (k:KeepS S w w'):VerOk w' S x:=⟨srow_keepS h.pre k h.ip,srow_keepS h.build k h.ib,h.ip,h.ib,h.cp,h.cb,h.fit⟩
theorem VerOk.mono {w:World} {S S':Nat→Prop} {x:MVer} (h:VerOk w S x) (hS:∀ b,S b→b<w.heap.size→S' b):VerOk w S' x:=⟨h.pre,h.build,h.ip.mono h.pre hS,h.ib.mono h.build hS,h.cp,h.cb,h.fit⟩
structure MRel where
 ver:MVer
 yanked:Bool
 N:Option Addr
 nc:Nat
 needs:List MDep
 B:Option Addr
 bc:Nat
 bans:List MDep
instance:Inhabited MRel:=⟨⟨default,false,none,0,[],none,0,[]⟩⟩
def MRel.vals (r:MRel):List Value:=r.ver.vals ++ [.bool r.yanked,.slice r.N r.needs.length r.nc,.slice r.B r.bans.length r.bc]
def MRel.agg (r:MRel):Value:=.agg #[r.ver.v.a,r.ver.v.b,r.ver.v.c,.slice r.ver.A r.ver.v.pre.length r.ver.c,.slice r.ver.B r.ver.v.build.length r.ver.d,.bool r.yanked,.slice r.N r.needs.length r.nc,.slice r.B r.bans.length r.bc]
def MRel.p (r:MRel):PRel:=⟨r.ver.v,r.yanked,r.needs.map MDep.p,r.bans.map MDep.p⟩
theorem rel_len (r:MRel):r.vals.length=8:=rfl
structure RelOk (w:World) (S:Nat→Prop) (r:MRel):Prop where
 ver:VerOk w S r.ver
 needs:DRow w S r.N r.needs.length r.needs
 bans:DRow w S r.B r.bans.length r.bans
 nc:r.needs.length≤r.nc∧r.nc≤maxLen
 bc:r.bans.length≤r.bc∧r.bc≤maxLen
 nn:r.N=none→r.nc=0
 bn:r.B=none→r.bc=0
theorem RelOk.keep {w w':World} {S:Nat→Prop} {r:MRel} (h:RelOk w S r) (k:KeepS S w w'):RelOk w' S r:=⟨h.ver.keep k,h.needs.keep k,h.bans.keep k,h.nc,h.bc,h.nn,h.bn⟩
theorem RelOk.mono {w:World} {S S':Nat→Prop} {r:MRel} (h:RelOk w S r) (hS:∀ b,S b→b<w.heap.size→S' b):RelOk w S' r:=⟨h.ver.mono hS,h.needs.mono hS,h.bans.mono hS,h.nc,h.bc,h.nn,h.bn⟩
structure RRow (w:World) (S:Nat→Prop) (A:Option Addr) (n:Nat) (l:List MRel):Prop where
 row:KRow MRel.vals 8 w S A n l
 ok:∀ r ∈ l,RelOk w S r
theorem RRow.keep {w w':World} {S:Nat→Prop} {A:Option Addr} {n:Nat} {l:List MRel} (h:RRow w S A n l) (k:KeepS S w w'):RRow w' S A n l:=⟨h.row.keep k,fun d hd=>(h.ok d hd).keep k⟩
theorem RRow.mono {w:World} {S S':Nat→Prop} {A:Option Addr} {n:Nat} {l:List MRel} (h:RRow w S A n l) (hS:∀ b,S b→b<w.heap.size→S' b):RRow w S' A n l:=⟨h.row.mono hS,fun d hd=>(h.ok d hd).mono hS⟩
structure MPack where
 name:List UInt8
 R:Option Addr
 rc:Nat
 rels:List MRel
instance:Inhabited MPack:=⟨⟨[],none,0,[]⟩⟩
def MPack.vals (p:MPack):List Value:=[.string (Ident.mk p.name),.slice p.R p.rels.length p.rc]
def MPack.agg (p:MPack):Value:=.agg #[.string (Ident.mk p.name),.slice p.R p.rels.length p.rc]
def MPack.p (p:MPack):PPack:=⟨p.name,p.rels.map MRel.p⟩
theorem pack_len (p:MPack):p.vals.length=2:=rfl
structure PackOk (w:World) (S:Nat→Prop) (p:MPack):Prop where
 short:p.name.length≤maxLen
 rels:RRow w S p.R p.rels.length p.rels
 rc:p.rels.length≤p.rc∧p.rc≤maxLen
 rn:p.R=none→p.rc=0
theorem PackOk.keep {w w':World} {S:Nat→Prop} {p:MPack} (h:PackOk w S p) (k:KeepS S w w'):PackOk w' S p:=⟨h.short,h.rels.keep k,h.rc,h.rn⟩
theorem PackOk.mono {w:World} {S S':Nat→Prop} {p:MPack} (h:PackOk w S p) (hS:∀ b,S b→b<w.heap.size→S' b):PackOk w S' p:=⟨h.short,h.rels.mono hS,h.rc,h.rn⟩
structure PRow (w:World) (S:Nat→Prop) (A:Option Addr) (n:Nat) (l:List MPack):Prop where
 row:KRow MPack.vals 2 w S A n l
 ok:∀ p ∈ l,PackOk w S p
theorem PRow.keep {w w':World} {S:Nat→Prop} {A:Option Addr} {n:Nat} {l:List MPack} (h:PRow w S A n l) (k:KeepS S w w'):PRow w' S A n l:=⟨h.row.keep k,fun d hd=>(h.ok d hd).keep k⟩
theorem PRow.mono {w:World} {S S':Nat→Prop} {A:Option Addr} {n:Nat} {l:List MPack} (h:PRow w S A n l) (hS:∀ b,S b→b<w.heap.size→S' b):PRow w S' A n l:=⟨h.row.mono hS,fun d hd=>(h.ok d hd).mono hS⟩
structure MPin where
 name:List UInt8
 ver:MVer
instance:Inhabited MPin:=⟨⟨[],default⟩⟩
def MPin.vals (p:MPin):List Value:=.string (Ident.mk p.name) :: p.ver.vals
def MPin.agg (p:MPin):Value:=.agg #[.string (Ident.mk p.name),p.ver.v.a,p.ver.v.b,p.ver.v.c,.slice p.ver.A p.ver.v.pre.length p.ver.c,.slice p.ver.B p.ver.v.build.length p.ver.d]
def MPin.p (p:MPin):PPin:=⟨p.name,p.ver.v⟩
theorem pin_len (p:MPin):p.vals.length=6:=rfl
structure PinOk (w:World) (S:Nat→Prop) (p:MPin):Prop where
 short:p.name.length≤maxLen
 ver:VerOk w S p.ver
theorem PinOk.keep {w w':World} {S:Nat→Prop} {p:MPin} (h:PinOk w S p) (k:KeepS S w w'):PinOk w' S p:=⟨h.short,h.ver.keep k⟩
structure SPRow (w:World) (S:Nat→Prop) (A:Option Addr) (n:Nat) (l:List MPin):Prop where
 row:KRow MPin.vals 6 w S A n l
 ok:∀ p ∈ l,PinOk w S p
theorem SPRow.keep {w w':World} {S:Nat→Prop} {A:Option Addr} {n:Nat} {l:List MPin} (h:SPRow w S A n l) (k:KeepS S w w'):SPRow w' S A n l:=⟨h.row.keep k,fun d hd=>(h.ok d hd).keep k⟩
end Go.Proofs.YtnpjklaaokiikaaGreatDoor.Model
