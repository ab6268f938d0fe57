/-
  What the theorem of the last text needs of these: NmGood, PrRefFull, MoHeap. Conditions: as each theorem states.
-/
import Derived.Test.YtgakcdcfblgagaaGreatDoorRoA1
import Derived.Test.YtgakcdcfblgagaaGreatDoorRoA2
import Derived.Test.YtgakcdcfblgagaaGreatDoorRoA8
import Derived.Test.YtgakcdcfblgagaaGreatDoorRoA14
import Derived.Test.YtgakcdcfblgagaaGreatDoorRoA15
import Derived.Deep.CutBlock
import Derived.Deep.DeepCutAuto
import Derived.Laws.OwnMore
set_option maxRecDepth 100000
set_option maxHeartbeats 25600000
namespace Go.Proofs.YtgakcdcfblgagaaGreatDoor.Range
open Go.RowKit Num Ident Semver
theorem fits_ver {k:Int} {v:Ver} {n:Nat} (h:ofVersion k=true):fits k v n=(goodV v && decide (n=0)):=by unfold fits; rw [if_pos h]
theorem fits_un {k:Int} {v:Ver} {n:Nat} (h:ofVersion k=false) (h2:sameV v noVer=false):fits k v n=false:=by unfold fits; rw [if_neg (by simp [h]),if_pos h2]
theorem fits_zero {k:Int} {v:Ver} {n:Nat} (h:ofVersion k=false) (h2:sameV v noVer=true):fits k v n=if k=0 then decide (n=0) else if k=9∨k=10 then decide (2≤n) else if k=11 then decide (n=1) else false:=by
 unfold fits; rw [if_neg (by simp [h]),if_neg (by simp [h2])]
theorem fits_full (x:RV) (w:World) (hr1:SRow w x.A x.v.pre.length x.v.pre) (hr2:SRow w x.B x.v.build.length x.v.build) (hf:FitV x.v) :
  Calls Tryz.prog 211 #[x.agg] w fun e w'=>e=.returned (.bool (fits x.kind x.v x.n))∧Below w.heap.size w w':=by
 have HB:Hid (Below w.heap.size w (w.alloc x)):=(Below.refl _ _).alloc (Nat.le_refl _) _
 have HRA:Hid (RAt (w.alloc x) w.heap.size x):=RAt.new w _ x
 have HR1:=Lib.hid (hr1.kept HB.out)
 have HR2:=Lib.hid (hr2.kept HB.out)
 have HF:=Lib.hid hf
 clear hr1 hr2 hf
 unfold RV.agg
 generalize hR:fits x.kind x.v x.n=R
 have HR:=Lib.hid hR
 clear hR
 go_enter Tryz.func211,Tryz.ntmps211
 go_upto_region 1 with (fail)
 generalize w.alloc x=W at HB HRA HR1 HR2 ⊢
 obtain ⟨y1,y2,c0,c1,c2,c3,c4,c5,c6⟩:=HRA.out
 cases hov:ofVersion x.kind with
 | true =>
  have HOV:=Lib.hid hov
  have HE:Hid (R=(goodV x.v && decide (x.n=0))):=by unfold Hid; rw [← HR.out]; exact fits_ver hov
  clear hov HR
  go_wp2_with fail
  refine (ofVersion_any x.kind W).mono ?_
  rintro e w' ⟨rfl,rfl⟩
  rw [HOV.out]
  go_wp2_with fail
  refine (vgood_any x.v x.A x.c x.B x.d w' HR1.out HR2.out HF.out.pre HF.out.build HF.out.pres HF.out.builds).mono ?_
  rintro e W2 ⟨rfl,hb⟩
  have HB2:=Lib.hid (HB.out.trans (hb.mono HB.out.size))
  have HRA2:=Lib.hid (HRA.out.kept hb HRA.out.1)
  clear hb y1 y2 c0 c1 c2 c3 c4 c5 c6
  obtain ⟨y1,y2,c0,c1,c2,c3,c4,c5,c6⟩:=HRA2.out
  cases hgv:goodV x.v with
  | true =>
   by_cases hn:x.n=0
   ·obtain rfl:R=true:=by rw [HE.out,hgv,hn]; rfl
    rw [hn] at c6
    clear HE hgv hn
    go_wp2; go_ret
    exact ⟨rfl,HB2.out⟩
   ·obtain rfl:R=false:=by rw [HE.out,decide_eq_false hn,Bool.and_false]
    have q0:((x.n:Int) == 0)=false:=beq_eq_false_iff_ne.2 (by omega)
    clear hn HE hgv
    go_wp2; go_ret
    exact ⟨rfl,HB2.out⟩
  | false =>
   obtain rfl:R=false:=by rw [HE.out,hgv]; rfl
   clear HE hgv
   go_wp2; go_ret
   exact ⟨rfl,HB2.out⟩
 | false =>
  have HOV:=Lib.hid hov
  have HE1:Hid (sameV x.v noVer=false→R=false):=fun h=>by rw [← HR.out]; exact fits_un hov h
  have HE2:Hid (sameV x.v noVer=true→R=if x.kind=0 then decide (x.n=0) else if x.kind=9∨x.kind=10 then decide (2≤x.n) else if x.kind=11 then decide (x.n=1) else false):=fun h=>by rw [← HR.out]; exact fits_zero hov h
  clear hov HR
  go_wp2_with fail
  refine (ofVersion_any x.kind W).mono ?_
  rintro e w' ⟨rfl,rfl⟩
  rw [HOV.out]
  go_wp2_with fail
  refine (same_parts x.A x.v.pre.length x.c x.v.pre x.B x.v.build.length x.d x.v.build none 0 0 [] none 0 0 [] x.v.a x.v.b x.v.c 0 0 0 w' HR1.out HR2.out (srow_none _ _) (srow_none _ _) HF.out.pre HF.out.build (Nat.zero_le _) (Nat.zero_le _)).mono ?_
  rintro e W2 ⟨rfl,hb⟩
  have HB2:=Lib.hid (HB.out.trans (hb.mono HB.out.size))
  have HRA2:=Lib.hid (HRA.out.kept hb HRA.out.1)
  clear hb y1 y2 c0 c1 c2 c3 c4 c5 c6
  obtain ⟨y1,y2,c0,c1,c2,c3,c4,c5,c6⟩:=HRA2.out
  have HS:Hid (sameV ⟨x.v.a,x.v.b,x.v.c,x.v.pre,x.v.build⟩ ⟨0,0,0,[],[]⟩=sameV x.v noVer):=rfl
  rw [HS.out]
  cases hsv:sameV x.v noVer with
  | false =>
   obtain rfl:=HE1.out hsv
   clear hsv HE1 HE2
   go_wp2; go_ret
   exact ⟨rfl,HB2.out⟩
  | true =>
   have hE:=HE2.out hsv
   clear hsv HE1 HE2 HOV HS
   by_cases k0:x.kind=0
   ·rw [if_pos k0] at hE
    rw [k0] at c0
    clear k0
    by_cases hn:x.n=0
    ·obtain rfl:R=true:=by rw [hE,decide_eq_true hn]
     rw [hn] at c6
     clear hE hn
     go_wp2; go_ret
     exact ⟨rfl,HB2.out⟩
    ·have q0:((x.n:Int) == 0)=false:=beq_eq_false_iff_ne.2 (by omega)
     obtain rfl:R=false:=by rw [hE,decide_eq_false hn]
     clear hn hE
     go_wp2; go_ret
     exact ⟨rfl,HB2.out⟩
   ·rw [if_neg k0] at hE
    by_cases k9:x.kind=9∨x.kind=10
    ·rw [if_pos k9] at hE
     by_cases hn:2≤x.n
     ·have hn2:(2:Int)≤(x.n:Int):=by omega
      obtain rfl:R=true:=by rw [hE,decide_eq_true hn]
      clear hn k0 hE
      rcases k9 with k9 | k9 <;> rw [k9] at c0 <;> clear k9 <;> go_wp2 <;> go_ret <;> exact ⟨rfl,HB2.out⟩
     ·have q2:decide ((2:Int)≤(x.n:Int))=false:=decide_eq_false (by omega)
      obtain rfl:R=false:=by rw [hE,decide_eq_false hn]
      clear hn k0 hE
      rcases k9 with k9 | k9 <;> rw [k9] at c0 <;> clear k9 <;> go_wp2 <;> go_ret <;> exact ⟨rfl,HB2.out⟩
    ·rw [if_neg k9] at hE
     by_cases k11:x.kind=11
     ·rw [if_pos k11] at hE
      rw [k11] at c0
      clear k11 k0 k9
      by_cases hn:x.n=1
      ·obtain rfl:R=true:=by rw [hE,decide_eq_true hn]
       rw [hn] at c6
       clear hE hn
       go_wp2; go_ret
       exact ⟨rfl,HB2.out⟩
      ·have q1:((x.n:Int) == 1)=false:=beq_eq_false_iff_ne.2 (by omega)
       obtain rfl:R=false:=by rw [hE,decide_eq_false hn]
       clear hn hE
       go_wp2; go_ret
       exact ⟨rfl,HB2.out⟩
     ·rw [if_neg k11] at hE
      obtain rfl:=hE
      have n9:¬ x.kind=9:=fun h=>k9 (.inl h)
      have n10:¬ x.kind=10:=fun h=>k9 (.inr h)
      have q9:(x.kind == 9)=false:=by simp [n9]
      have q10:(x.kind == 10)=false:=by simp [n10]
      clear k9
      go_wp2; go_ret
      exact ⟨rfl,HB2.out⟩
theorem goodL_at {o:Int} {l:List Rng} {d:Nat}:goodL o l d=true↔∀ j,j<l.length→goodR (l.getD j noRng) (d+opens o (l.getD j noRng).kind)=true:=by
 induction l with
 | nil=>exact ⟨fun _ j hj=>by simp at hj,fun _=>rfl⟩
 | cons y l ih =>
  rw [goodL_cons,Bool.and_eq_true,ih]
  constructor
  ·rintro ⟨h1,h2⟩ j hj
   cases j with
   | zero=>exact h1
   | succ j=>exact h2 j (by simpa using hj)
  ·intro h
   exact ⟨h 0 (by simp),fun j hj=>h (j+1) (by simpa using hj)⟩
theorem goodL_no {o:Int} {l:List Rng} {d j:Nat} (hj:j<l.length) (h:goodR (l.getD j noRng) (d+opens o (l.getD j noRng).kind)=false):goodL o l d=false:=by
 rw [← Bool.not_eq_true,goodL_at]
 intro k
 rw [k j hj] at h; cases h
inductive LenOk:Rng→Prop
 | mk (k:Int) (v:Ver) (l:List Rng) (h:l.length≤9223372036854775807) (hl:∀ y ∈ l,LenOk y):LenOk (.mk k v l)
theorem LenOk.here {r:Rng} (h:LenOk r):r.subs.length≤9223372036854775807:=by cases h with | mk k v l h _=>exact h
theorem LenOk.sub {r y:Rng} (h:LenOk r) (hy:y ∈ r.subs):LenOk y:=by cases h with | mk k v l _ hl=>exact hl y hy
theorem LenOk.of_wt:∀ (m:Nat) (r:Rng),wt r≤m→m≤9223372036854775807→LenOk r
 | 0,r,h,_=>by rw [wt_eq] at h; omega
 | m+1,r,h,hM=>by
  obtain ⟨k,v,l⟩:=r
  rw [wt_eq] at h
  have h2:wtL l≤m:=by have:wtL (Rng.mk k v l).subs=wtL l:=rfl; omega
  exact .mk k v l (by have:=wtL_len l; omega) fun y hy=>LenOk.of_wt m y (Nat.le_trans (wt_mem hy) h2) (by omega)
theorem opens_two (a b:Int):opens a b≤2:=by unfold opens; split <;> split <;> omega
theorem good_full:∀ (m:Nat) (r:Rng) (x:RV) (B d:Nat) (w:World),wt r≤m→LenOk r→Lies w (LtB B) r x→B≤w.heap.size→d≤70 →
  Calls Tryz.prog 173 #[x.agg,.int .i64 d] w fun e w'=>e=.returned (.bool (goodR r d))∧Below w.heap.size w w'
 | 0,r,x,B,d,w,hm,_,hx,hB,hg=>by rw [wt_eq] at hm; omega
 | m+1,r,x,B,d,w,hm,hM,hx,hB,hdd=>by
  have IH:=Lib.hid (fun r x d w=>good_full m r x B d w)
  have hs:=hx.says
  obtain ⟨f,hln,_,_⟩:=hs.subs
  have HFits:=Lib.hid (fun W (hb:Below w.heap.size w W)=>fits_full x W (hs.pre.kept hb) (hs.build.kept hb) hs.fit)
  have HB:Hid (Below w.heap.size w (w.alloc x)):=(Below.refl _ _).alloc (Nat.le_refl _) _
  have HRA:Hid (RAt (w.alloc x) w.heap.size x):=RAt.new w _ x
  have HL:=Lib.hid (hx.keep (KeepS.of_below (S:=LtB B) HB.out))
  have HG:Hid (goodR r d=(decide (d≤64) && fits x.kind x.v x.n && goodL x.kind r.subs d)):=by
   have e1:=hs.kind
   have e2:=hs.ver
   rw [← e1,← e2,← hln]
   obtain ⟨k,v,l⟩:=r
   exact goodR_eq k v l d
  rw [wt_eq] at hm
  have hxn:x.n≤9223372036854775807:=by rw [← hln]; exact hM.here
  have HLO:=Lib.hid hM
  have HLN:=Lib.hid hln
  clear hs hx hln hM
  unfold RV.agg
  generalize hR:goodR r d=R
  replace HG:Hid (R=(decide (d≤64) && fits x.kind x.v x.n && goodL x.kind r.subs d)):=hR.symm.trans HG.out
  clear hR
  go_enter Tryz.func173,Tryz.ntmps173
  go_upto_region 1 with (fail)
  generalize w.alloc x=W at HB HRA HL ⊢
  obtain ⟨y1,y2,c0,c1,c2,c3,c4,c5,c6⟩:=HRA.out
  by_cases hd:¬ d≤64
  ·have hd64:(64:Int)<(d:Int):=by omega
   obtain rfl:R=false:=by rw [HG.out,decide_eq_false hd,Bool.false_and,Bool.false_and]
   clear hd HG
   go_wp2; go_ret
   exact ⟨rfl,HB.out⟩
  replace hd:=Classical.not_not.1 hd
  have hd64:¬ (64:Int)<(d:Int):=by omega
  replace HG:Hid (R=(fits x.kind x.v x.n && goodL x.kind r.subs d)):=by unfold Hid; rw [HG.out,decide_eq_true hd,Bool.true_and]
  go_wp2_with fail
  refine (HFits.out W HB.out).mono ?_
  rintro e W2 ⟨rfl,hb⟩
  have HB2:=Lib.hid (HB.out.trans (hb.mono HB.out.size))
  have HRA2:=Lib.hid (HRA.out.kept hb HRA.out.1)
  have HL2:=Lib.hid (HL.out.keep (KeepS.of_below (S:=LtB B) hb))
  have hB2:B≤W2.heap.size:=Nat.le_trans hB HB2.out.size
  clear hb y1 y2 c0 c1 c2 c3 c4 c5 c6 HB HRA HL HFits
  obtain ⟨y1,y2,c0,c1,c2,c3,c4,c5,c6⟩:=HRA2.out
  cases hfi:fits x.kind x.v x.n
  ·obtain rfl:R=false:=by rw [HG.out,hfi]; rfl
   clear HG hfi
   go_wp2; go_ret
   exact ⟨rfl,HB2.out⟩
  replace HG:Hid (R=goodL x.kind r.subs d):=by unfold Hid; rw [HG.out,hfi,Bool.true_and]
  clear hfi
  go_wp2
  go_loopw [4,6,17] (fun rv _ iv W'=>rv=.bool false∧∃ k:Nat,k≤x.n∧iv=.int .i64 k∧Hid (Below W2.heap.size W2 W')∧Hid (∀ j,j<k→goodR (r.subs.getD j noRng) (d+opens x.kind (r.subs.getD j noRng).kind)=true)) (fun _ _ iv _=>x.n - (intOf iv).toNat)
  case atStart=>exact ⟨rfl,0,Nat.zero_le _,rfl,Below.refl _ _,fun j hj=>absurd hj (Nat.not_lt_zero j)⟩
  case round =>
   obtain ⟨rfl,k,hk,rfl,HB3,HQ⟩:=hrel
   by_cases hlt:k<x.n
   ·obtain ⟨b,o,c,hLe,hSb,hcl,hcy⟩:=HL2.out.says.subs.one hlt
    have hll:k<r.subs.length:=by rw [HLN.out]; exact hlt
    have hmem:r.subs.getD k noRng ∈ r.subs:=by
     rw [List.getD_eq_getElem?_getD,List.getElem?_eq_getElem (by omega)]; exact List.getElem_mem _
    have hwt:wt (r.subs.getD k noRng)≤m:=by have:=wt_mem hmem; omega
    have ho2:=opens_two x.kind c.kind
    have hoi:IntKind.i64.wrap ((d:Int)+(opens x.kind c.kind:Int))=((d+opens x.kind c.kind:Nat):Int):=by rw [IntKind.wrap_i64] <;> omega
    have hqe:goodR (r.subs.getD k noRng) (d+opens x.kind c.kind)=goodR (r.subs.getD k noRng) (d+opens x.kind (r.subs.getD k noRng).kind):=by rw [hcy.says.kind]
    have hlo:=HLO.out.sub hmem
    obtain ⟨q,hq⟩:∃ q,q=r.subs.getD k noRng:=⟨_,rfl⟩
    rw [← hq] at hcy hwt hlo
    have hqe:goodR q (d+opens x.kind c.kind)=goodR (r.subs.getD k noRng) (d+opens x.kind (r.subs.getD k noRng).kind):=by rw [hq]; exact hqe
    clear hq
    have hcw:=(hcl.keep (KeepS.of_below (S:=LtB B) HB3.out) hSb).cells
    obtain ⟨e0,e1,e2,e3,e4,e5,e6⟩:=hcw
    have HBA:Hid (Below W2.heap.size W2 ((wr.alloc c).drew)):=(HB3.out.alloc HB3.out.size _).drew
    have HXd:Hid (RAt ((wr.alloc c).drew) w.heap.size x):=HRA2.out.kept HBA.out HRA2.out.1
    have HCd:Hid (RAt ((wr.alloc c).drew) wr.heap.size c):=by have h:=RAt.new wr 65 c; exact h
    have HLc:Hid (Lies ((wr.alloc c).drew) (LtB B) q c):=hcy.keep (KeepS.of_below (S:=LtB B) HBA.out)
    have hBA:B≤((wr.alloc c).drew).heap.size:=Nat.le_trans hB2 HBA.out.size
    have HQE:=Lib.hid hqe
    rw [hLe]
    clear hcl hcy hmem hqe
    go_upto_region 6 with (fail)
    clear e0 e1 e2 e3 e4 e5 e6 c0 c1 c2 c3 c4 c5 c6
    have hqe:=HQE.out
    refine wp_region_held_drew (S:=fun w'=>RAt w' w.heap.size x∧RAt w' wr.heap.size c) (by kernel_rfl) ⟨HXd.out,HCd.out⟩ (fun hHeld=>?_)
    refine tk 0 rfl c ?_ fun w' hS'=>by obtain ⟨y1,y2,c0,c1,c2,c3,c4,c5,c6⟩:=hS'.2; go_simp
    refine tk 1 rfl (.int .i64 d) ?_
    refine tk 2 rfl (.pointer (some ⟨w.heap.size,0,none⟩)) ?_
    refine tk 3 rfl x.kind ?_ fun w' hS'=>by obtain ⟨y1,y2,c0,c1,c2,c3,c4,c5,c6⟩:=hS'.1; go_simp
    refine tk 4 rfl (.pointer (some ⟨wr.heap.size,0,none⟩)) ?_
    refine tk 5 rfl c.kind ?_ fun w' hS'=>by obtain ⟨y1,y2,c0,c1,c2,c3,c4,c5,c6⟩:=hS'.2; go_simp
    refine cl 6 rfl fun K hK=>?_
    go_simp
    refine (opens_any x.kind c.kind _).mono ?_
    rintro e wg1 ⟨rfl,rfl⟩
    have hb:=True.intro
    clear hb hHeld
    refine hK.out _ _ ⟨HXd.out,HCd.out⟩ (fun hHeld=>?_)
    clear hK K
    try simp only [Act.put,p1,p2,p3]
    refine tk 7 rfl (.int .i64 ((d+opens x.kind c.kind:Nat):Int)) ?_
    refine cl 8 rfl fun K hK=>?_
    go_simp
    refine (IH.out q c (d+opens x.kind c.kind) _ hwt hlo HLc.out hBA (by omega)).mono ?_
    rintro e wg2 ⟨rfl,hb⟩
    have hbk:=hb
    have HB5:=Lib.hid (HBA.out.trans (hb.mono HBA.out.size))
    clear hb hHeld
    refine hK.out _ _ ⟨HXd.out.kept hbk HXd.out.1,HCd.out.kept hbk HCd.out.1⟩ (fun hHeld=>?_)
    clear hK K
    try simp only [Act.put,p1,p2,p3]
    refine tk 9 rfl (.bool (!goodR q (d+opens x.kind c.kind))) ?_
    refine wpAnyH_done (by kernel_rfl) ?_ _
    cases hqb:goodR q (d+opens x.kind c.kind)
    ·obtain rfl:R=false:=HG.out.trans (goodL_no (by omega) (hqe.symm.trans hqb))
     clear HQ HG
     go_wp2
     go_ret
     exact ⟨rfl,HB2.out.trans (HB5.out.mono HB2.out.size)⟩
    ·go_wp2
     exact ⟨⟨rfl,k+1,by omega,by go_num,HB5.out,fun j hj=>by
      by_cases hjk:j=k
      ·subst hjk; exact hqe.symm.trans hqb
      ·exact HQ.out j (by omega)⟩,by simp [intOf]; omega⟩

   ·obtain rfl:k=x.n:=by omega
    clear c0 c1 c2 c3 c4 c5 c6
    have HA:=Lib.hid (goodL_at.2 fun j hj=>HQ.out j (by rw [← HLN.out]; exact hj))
    obtain rfl:R=true:=HG.out.trans HA.out
    clear HG
    go_wp2
    go_ret
    exact ⟨rfl,HB2.out.trans (HB3.out.mono HB2.out.size)⟩
theorem goodIs_any (r:Rng) (x:RV) (B:Nat) (w:World) (hm:LenOk r) (hx:Lies w (LtB B) r x) (hB:B≤w.heap.size) :
  Calls Tryz.prog 118 #[x.agg] w fun e w'=>e=.returned (.bool (goodR r 0))∧Below w.heap.size w w':=by
 have HB:Hid (Below w.heap.size w (w.alloc x)):=(Below.refl _ _).alloc (Nat.le_refl _) _
 have HRA:Hid (RAt (w.alloc x) w.heap.size x):=RAt.new w _ x
 have HL:=Lib.hid (hx.keep (KeepS.of_below (S:=LtB B) HB.out))
 have HG:=Lib.hid (fun W h1 h2=>good_full (wt r) r x B 0 W (Nat.le_refl _) hm h1 h2 (by omega))
 have hB2:B≤(w.alloc x).heap.size:=Nat.le_trans hB HB.out.size
 clear hx
 unfold RV.agg
 go_enter Tryz.func118,Tryz.ntmps118
 go_upto_region 1 with (fail)
 generalize w.alloc x=W at HB HRA HL hB2 ⊢
 obtain ⟨y1,y2,c0,c1,c2,c3,c4,c5,c6⟩:=HRA.out
 go_wp2_with fail
 refine (HG.out W HL.out hB2).mono ?_
 rintro e W2 ⟨rfl,hb⟩
 have HB2:=Lib.hid (HB.out.trans (hb.mono HB.out.size))
 clear hb
 go_wp2
 go_ret
 exact ⟨rfl,HB2.out⟩
end Go.Proofs.YtgakcdcfblgagaaGreatDoor.Range
namespace Go.Proofs.YtgakcdcfblgagaaGreatDoor.Prec
open Go.RowKit Num Ident Semver
open KR (AtV)

theorem fullV_first {u v:Ver} (h:cmpV u v≠0):fullV u v=cmpV u v:=by unfold fullV lex; rw [if_neg h]
theorem fullV_second {u v:Ver} (h:cmpV u v=0):fullV u v=cmpRows u.build v.build:=by unfold fullV lex; rw [if_pos h]
theorem refFull_all (u v:Ver) (A1 A2 B1 B2:Option Addr) (c1 c2 d1 d2:Nat) (w:World) (r1:SRow w A1 u.pre.length u.pre) (r2:SRow w A2 u.build.length u.build) (q1:SRow w B1 v.pre.length v.pre) (q2:SRow w B2 v.build.length v.build)
  (n1:u.pre.length≤maxLen) (n2:u.build.length≤maxLen) (m1:v.pre.length≤maxLen) (m2:v.build.length≤maxLen) (f1:∀ x ∈ u.pre,x.length≤maxLen) (f2:∀ x ∈ u.build,x.length≤maxLen) (g1:∀ x ∈ v.pre,x.length≤maxLen) (g2:∀ x ∈ v.build,x.length≤maxLen) :
  Calls Tryz.prog 35 #[.agg #[u.a,u.b,u.c,.slice A1 u.pre.length c1,.slice A2 u.build.length c2],.agg #[v.a,v.b,v.c,.slice B1 v.pre.length d1,.slice B2 v.build.length d2]] w fun e w'=>e=.returned (.int .i64 (fullV u v))∧Below w.heap.size w w':=by
 have R1:=Lib.hid r1
 have R2:=Lib.hid r2
 have Q1:=Lib.hid q1
 have Q2:=Lib.hid q2
 have N1:=Lib.hid n1
 have N2:=Lib.hid n2
 have M1:=Lib.hid m1
 have M2:=Lib.hid m2
 have F1:=Lib.hid f1
 have F2:=Lib.hid f2
 have G1:=Lib.hid g1
 have G2:=Lib.hid g2
 clear r1 r2 q1 q2 n1 n2 m1 m2 f1 f2 g1 g2
 obtain ⟨W0,hW,ha,hb,hb0⟩:∃ W,W=((w.alloc (.cells #[u.a,u.b,u.c,.slice A1 u.pre.length c1,.slice A2 u.build.length c2] 37)).alloc (.cells #[v.a,v.b,v.c,.slice B1 v.pre.length d1,.slice B2 v.build.length d2] 37))∧AtV W w.heap.size [.int .u64 u.a,.int .u64 u.b,.int .u64 u.c,.slice A1 u.pre.length c1,.slice A2 u.build.length c2]∧AtV W (w.heap.size+1) [.int .u64 v.a,.int .u64 v.b,.int .u64 v.c,.slice B1 v.pre.length d1,.slice B2 v.build.length d2]∧Below w.heap.size w W:=by
  refine ⟨_,rfl,(AtV.new w 37 [.int .u64 u.a,.int .u64 u.b,.int .u64 u.c,.slice A1 u.pre.length c1,.slice A2 u.build.length c2]).kept ((Below.refl _ _).alloc (Nat.le_refl _) _) (by simp),?_,((Below.refl _ _).alloc (Nat.le_refl _) _).alloc (by simp) _⟩
  have:=AtV.new (w.alloc (.cells #[u.a,u.b,u.c,.slice A1 u.pre.length c1,.slice A2 u.build.length c2] 37)) 37 [.int .u64 v.a,.int .u64 v.b,.int .u64 v.c,.slice B1 v.pre.length d1,.slice B2 v.build.length d2]
  rw [size_alloc] at this; exact this
 have HA:=Lib.hid ha
 have HV:=Lib.hid hb
 have HB0:=Lib.hid hb0
 clear ha hb hb0
 obtain ⟨ub,hub⟩:∃ ub,w.heap.size=ub:=⟨_,rfl⟩
 obtain ⟨vb,hvb⟩:∃ vb,w.heap.size+1=vb:=⟨_,rfl⟩
 rw [hub] at HA
 rw [hvb] at HV
 have HUB:=Lib.hid hub
 have HVB:=Lib.hid hvb
 clear hub hvb
 go_enter Tryz.func35,Tryz.ntmps35
 go_upto_region 1 with (fail)
 rw [← hW,HVB.out,HUB.out]
 clear hW
 have a0:=HA.out.at_ 0 _ rfl
 have a1:=HA.out.at_ 1 _ rfl
 have a2:=HA.out.at_ 2 _ rfl
 have a3:=HA.out.at_ 3 _ rfl
 have a4:=HA.out.at_ 4 _ rfl
 have b0:=HV.out.at_ 0 _ rfl
 have b1:=HV.out.at_ 1 _ rfl
 have b2:=HV.out.at_ 2 _ rfl
 have b3:=HV.out.at_ 3 _ rfl
 have b4:=HV.out.at_ 4 _ rfl
 go_wp2_with fail
 refine (refCompare_all u v A1 A2 B1 B2 c1 c2 d1 d2 _ (R1.out.kept HB0.out) (Q1.out.kept HB0.out) N1.out M1.out F1.out G1.out).mono ?_
 rintro e W1 ⟨rfl,hb1⟩
 have HB1:=Lib.hid (HB0.out.trans (hb1.mono HB0.out.size))
 have HA1:=Lib.hid (HA.out.kept hb1 HA.out.lt)
 have HV1:=Lib.hid (HV.out.kept hb1 HV.out.lt)
 clear hb1 a0 a1 a2 a3 a4 b0 b1 b2 b3 b4 HA HV
 have HF1:=Lib.hid (fun h=>fullV_first (u:=u) (v:=v) h)
 have HF2:=Lib.hid (fun h=>fullV_second (u:=u) (v:=v) h)
 generalize cmpV u v=n at HF1 HF2 ⊢
 by_cases h0:n=0
 ·have HF:=Lib.hid (HF2.out h0)
  subst h0
  have a4:=HA1.out.at_ 4 _ rfl
  have b4:=HV1.out.at_ 4 _ rfl
  go_wp2_with fail
  refine (refRows_all A2 u.build.length c2 u.build B2 v.build.length d2 v.build _ (R2.out.kept HB1.out) (Q2.out.kept HB1.out) N2.out M2.out F2.out G2.out).mono ?_
  rintro e W2 ⟨rfl,hb2⟩
  have HB2:=Lib.hid (HB1.out.trans (hb2.mono HB1.out.size))
  clear hb2 a4 b4
  go_wp2
  go_ret
  exact ⟨by rw [HF.out]; rfl,HB2.out⟩
 ·have HF:=Lib.hid (HF1.out h0)
  have hb:(n != 0)=true:=by simpa using h0
  clear h0
  go_wp2
  go_ret
  exact ⟨by rw [HF.out]; rfl,HB1.out⟩
end Go.Proofs.YtgakcdcfblgagaaGreatDoor.Prec
namespace Go.Proofs.YtgakcdcfblgagaaGreatDoor.Copy
open Go.RowKit Num Ident Semver Fr
open Range (Rng noRng RV Lies RgRow CellsAt KeepS LtB InS FitV wt wtL)

abbrev Ghost:=Nat→Option (List Rng)
def Txt (W:World) (B g:Nat):Prop:=g<B∨∃ cur,W.heap[g]?=some (.cells cur 9 (0,0))
def Not (W:World) (B t:Nat):Prop:=B≤t∧∀ cur,W.heap[t]?≠some (.cells cur 9 (0,0))
theorem Txt.ne {W:World} {B g t:Nat} (h:Txt W B g) (ht:Not W B t):g≠t:=by
 rintro rfl
 rcases h with h | ⟨cur,h⟩
 ·have:=ht.1; omega
 ·exact ht.2 cur h
theorem keep_but {T S:Nat→Prop} {w w':World} (h:But T w w') (hn:∀ g,S g→¬ T g):KeepS S w w' :=
 ⟨h.size,fun _ _ _ hg hc=>(h.cell (Range.block_lt hc) (hn _ hg)).trans hc⟩
theorem Txt.but {W W':World} {B g t:Nat} (h:Txt W B g) (hb:But (fun k=>k=t) W W') (ht:Not W B t):Txt W' B g:=by
 have hne:=h.ne ht
 rcases h with h | ⟨cur,h⟩
 ·exact .inl h
 ·exact .inr ⟨cur,(hb.block g (Array.getElem?_eq_some_iff.1 h).1 hne).trans h⟩
theorem Txt.below {W W':World} {B g:Nat} (h:Txt W B g) (hb:Below W.heap.size W W'):Txt W' B g:=by
 rcases h with h | ⟨cur,h⟩
 ·exact .inl h
 ·exact .inr ⟨cur,(hb.block g (Array.getElem?_eq_some_iff.1 h).1).trans h⟩
theorem ins_map {S S':Nat→Prop} {A:Option Addr} {n:Nat} (h:InS S A n) (hS:∀ b,S b→S' b):InS S' A n:=fun h0=>by
 obtain ⟨b,o,e,hb⟩:=h h0
 exact ⟨b,o,e,hS b hb⟩
structure Ok1 (W:World) (B:Nat) (G:Ghost) (r:Rng) (x:RV):Prop where
 kind:r.kind=x.kind
 ver:r.ver=x.v
 pre:SRow W x.A x.v.pre.length x.v.pre
 build:SRow W x.B x.v.build.length x.v.build
 ip:InS (Txt W B) x.A x.v.pre.length
 ib:InS (Txt W B) x.B x.v.build.length
 cp:x.v.pre.length≤x.c
 cb:x.v.build.length≤x.d
 fit:FitV x.v
 nil:x.L=none→x.e=0
 cap:x.n≤x.e
 subs:r.subs.length=x.n
 at_:RgRow W (LtB B) x.L x.n r.subs∨∃ g,x.L=some ⟨g,0,none⟩∧G g=some r.subs
def Typed (W:World) (B:Nat) (G:Ghost):Prop :=
 ∀ g rs,G g=some rs→∃ (c:Nat) (xs:List RV),xs.length=rs.length∧W.ownsRow B 65 7 (.slice (some ⟨g,0,none⟩) rs.length c) rs.length (xs.flatMap RV.vals)∧∀ j,j<rs.length→Ok1 W B G (rs.getD j noRng) (xs.getD j default)
theorem Ok1.of_lies {W:World} {B:Nat} {G:Ghost} {r:Rng} {x:RV} (h:Lies W (LtB B) r x):Ok1 W B G r x:=by
 have s:=h.says
 exact ⟨s.kind,s.ver,s.pre,s.build,ins_map s.ip fun _ hb=>.inl hb,ins_map s.ib fun _ hb=>.inl hb,s.cp,s.cb,s.fit,s.nil,s.cap,(by obtain ⟨f,h1,_⟩:=s.subs; exact h1),.inl s.subs⟩
theorem Ok1.more {W:World} {B:Nat} {G G':Ghost} {r:Rng} {x:RV} (h:Ok1 W B G r x) (hG:∀ g rs,G g=some rs→G' g=some rs):Ok1 W B G' r x :=
 ⟨h.kind,h.ver,h.pre,h.build,h.ip,h.ib,h.cp,h.cb,h.fit,h.nil,h.cap,h.subs,h.at_.imp_right fun ⟨g,a,b⟩=>⟨g,a,hG g _ b⟩⟩
theorem Ok1.below {W W':World} {B:Nat} {G:Ghost} {r:Rng} {x:RV} (h:Ok1 W B G r x) (hb:Below W.heap.size W W'):Ok1 W' B G r x :=
 ⟨h.kind,h.ver,h.pre.kept hb,h.build.kept hb,ins_map h.ip fun _ q=>q.below hb,ins_map h.ib fun _ q=>q.below hb,h.cp,h.cb,h.fit,h.nil,h.cap,h.subs,h.at_.imp_left fun h=>h.keep (KeepS.of_below hb)⟩
theorem Ok1.but {W W':World} {B t:Nat} {G:Ghost} {r:Rng} {x:RV} (h:Ok1 W B G r x) (hb:But (fun k=>k=t) W W') (ht:Not W B t):Ok1 W' B G r x :=
 ⟨h.kind,h.ver,Range.srow_keepS h.pre (keep_but hb fun g hg e=>hg.ne ht e) h.ip,Range.srow_keepS h.build (keep_but hb fun g hg e=>hg.ne ht e) h.ib,ins_map h.ip fun _ q=>q.but hb ht,ins_map h.ib fun _ q=>q.but hb ht,h.cp,h.cb,h.fit,h.nil,h.cap,h.subs,
  h.at_.imp_left fun h=>h.keep (keep_but hb fun g hg e=>by have hg:g<B:=hg; have:=ht.1; omega)⟩
theorem Typed.below {W W':World} {B:Nat} {G:Ghost} (h:Typed W B G) (hb:Below W.heap.size W W'):Typed W' B G:=fun g rs hg=>by
 obtain ⟨c,xs,h1,h2,h3⟩:=h g rs hg
 exact ⟨c,xs,h1,own_below h2 hb,fun j hj=>(h3 j hj).below hb⟩
theorem Typed.but {W W':World} {B t:Nat} {G:Ghost} (h:Typed W B G) (hb:But (fun k=>k=t) W W') (ht:Not W B t) (hG:G t=none):Typed W' B G:=fun g rs hg=>by
 obtain ⟨c,xs,h1,h2,h3⟩:=h g rs hg
 refine ⟨c,xs,h1,own_but h2 hb fun b e q=>?_,fun j hj=>(h3 j hj).but hb ht⟩
 injection e with e
 have e:g=b:=e
 rw [e,q,hG] at hg
 cases hg
theorem Typed.add {W:World} {B:Nat} {G:Ghost} (h:Typed W B G) {g:Nat} {rs:List Rng} (hn:G g=none) {c:Nat} {xs:List RV} (h1:xs.length=rs.length) (h2:W.ownsRow B 65 7 (.slice (some ⟨g,0,none⟩) rs.length c) rs.length (xs.flatMap RV.vals)) (h3:∀ j,j<rs.length→Ok1 W B G (rs.getD j noRng) (xs.getD j default)) :
  Typed W B (fun k=>if k=g then some rs else G k):=by
 have hm:∀ k q,G k=some q→(fun k=>if k=g then some rs else G k) k=some q:=fun k q hk=>by
  show (if k=g then some rs else G k)=some q
  rw [if_neg (fun e=>by rw [e,hn] at hk; cases hk)]; exact hk
 intro k q hk
 by_cases e:k=g
 ·have hk:(if k=g then some rs else G k)=some q:=hk
  rw [if_pos e] at hk
  injection hk with hk
  subst hk
  subst e
  exact ⟨c,xs,h1,h2,fun j hj=>(h3 j hj).more hm⟩
 ·have hk:(if k=g then some rs else G k)=some q:=hk
  rw [if_neg e] at hk
  obtain ⟨c',ys,a1,a2,a3⟩:=h k q hk
  exact ⟨c',ys,a1,a2,fun j hj=>(a3 j hj).more hm⟩
theorem own_at {W:World} {B g n c:Nat} {xs:List RV} (h:W.ownsRow B 65 7 (.slice (some ⟨g,0,none⟩) n c) n (xs.flatMap RV.vals)) (hx:xs.length=n) {j:Nat} (hj:j<n) :
  B≤g∧g<W.heap.size∧n≤c∧(∀ o,W.frozen? ⟨g,o,none⟩=false)∧CellsAt W g (j * 7) (xs.getD j default):=by
 obtain ⟨A,c',e,h1,_,h4⟩:=own_cells Range.rv_len h hx
 injection e with e1 e2 e3
 subst e1
 subst e3
 obtain ⟨g',e,h5,h6,h7,h8⟩:=h4 (by omega)
 injection e with e
 injection e with e
 subst e
 exact ⟨h5,h6,h1,h7,fun i u hu=>by have:=h8 j hj i u hu; rwa [Nat.zero_add] at this⟩
structure Cur (W:World) (B:Nat) (G:Ghost) (g:Nat) (rs:List Rng) (j:Nat) (x:RV):Prop where
 typed:Typed W B G
 told:G g=some rs
 lt:j<rs.length
 here:∃ (c:Nat) (xs:List RV),xs.length=rs.length∧W.ownsRow B 65 7 (.slice (some ⟨g,0,none⟩) rs.length c) rs.length (xs.flatMap RV.vals)∧(∀ j,j<rs.length→Ok1 W B G (rs.getD j noRng) (xs.getD j default))∧xs.getD j default=x
theorem Typed.cur {W:World} {B:Nat} {G:Ghost} (h:Typed W B G) {g:Nat} {rs:List Rng} (hg:G g=some rs) {j:Nat} (hj:j<rs.length):∃ x,Cur W B G g rs j x:=by
 obtain ⟨c,xs,h1,h2,h3⟩:=h g rs hg
 exact ⟨_,h,hg,hj,c,xs,h1,h2,h3,rfl⟩
theorem Cur.ok {W:World} {B:Nat} {G:Ghost} {g:Nat} {rs:List Rng} {j:Nat} {x:RV} (h:Cur W B G g rs j x):Ok1 W B G (rs.getD j noRng) x:=by
 obtain ⟨c,xs,h1,h2,h3,rfl⟩:=h.here
 exact h3 j h.lt
theorem Cur.at_ {W:World} {B:Nat} {G:Ghost} {g:Nat} {rs:List Rng} {j:Nat} {x:RV} (h:Cur W B G g rs j x):B≤g∧g<W.heap.size∧(∀ o,W.frozen? ⟨g,o,none⟩=false)∧CellsAt W g (j * 7) x:=by
 obtain ⟨c,xs,h1,h2,h3,rfl⟩:=h.here
 have:=own_at h2 h1 h.lt
 exact ⟨this.1,this.2.1,this.2.2.2.1,this.2.2.2.2⟩
theorem Cur.below {W W':World} {B:Nat} {G:Ghost} {g:Nat} {rs:List Rng} {j:Nat} {x:RV} (h:Cur W B G g rs j x) (hb:Below W.heap.size W W'):Cur W' B G g rs j x:=by
 obtain ⟨c,xs,h1,h2,h3,h4⟩:=h.here
 exact ⟨h.typed.below hb,h.told,h.lt,c,xs,h1,own_below h2 hb,fun j hj=>(h3 j hj).below hb,h4⟩
theorem own_not {W:World} {B g n c:Nat} {e:TypeId} {k:Nat} {xs:List Value} (h:W.ownsRow B e k (.slice (some ⟨g,0,none⟩) n c) n xs) (he:e≠9):Not W B g:=by
 rcases h.2 with ⟨e1,_⟩ | ⟨g',cap,cur,e1,h1,h2,_⟩
 ·cases e1
 ·injection e1 with e1
  injection e1 with e1
  injection e1 with e1
  subst e1
  refine ⟨h1,fun cur' q=>?_⟩
  rw [h2] at q
  injection q with q
  injection q with _ q
  exact he q
theorem flat_set {α:Type} [Inhabited α] (f:α→List Value) (k:Nat) (hk:∀ x,(f x).length=k):∀ (l:List α) (j i:Nat) (u:Value) (y:α),j<l.length→i<k→f y=(f (l.getD j default)).set i u→(l.flatMap f).set (j * k+i) u=(l.set j y).flatMap f
 | [],j,i,u,y,hj,_,_=>by simp at hj
 | x :: l,0,i,u,y,_,hi,hy=>by
  have hy:f y=(f x).set i u:=hy
  rw [List.flatMap_cons,List.set_cons_zero,List.flatMap_cons,Nat.zero_mul,Nat.zero_add,List.set_append_left _ _ (by rw [hk]; exact hi),hy]
 | x :: l,j+1,i,u,y,hj,hi,hy=>by
  rw [List.flatMap_cons,List.set_cons_succ,List.flatMap_cons,List.set_append_right _ _ (by rw [hk,Nat.succ_mul]; omega),hk,show (j+1) * k+i - k=j * k+i by rw [Nat.succ_mul]; omega]
  rw [flat_set f k hk l j i u y (by simpa using hj) hi hy]
theorem set_self {α:Type} [Inhabited α] {l:List α} {j:Nat} {y:α} (h:j<l.length):(l.set j y).getD j default=y:=by rw [List.getD_eq_getElem?_getD,List.getElem?_set_self h]; rfl
theorem set_other {α:Type} [Inhabited α] {l:List α} {j k:Nat} {y:α} (h:k≠j):(l.set j y).getD k default=l.getD k default:=by rw [List.getD_eq_getElem?_getD,List.getElem?_set_ne (fun q=>h q.symm),← List.getD_eq_getElem?_getD]
theorem But.one (W:World) (g o:Nat) (v:Value):But (fun k=>k=g) W (W.setCell ⟨g,o,none⟩ v):=(But.refl _ _).set _ _ _ (.inl rfl)
theorem Cur.store {W:World} {B:Nat} {G:Ghost} {g:Nat} {rs:List Rng} {j:Nat} {x:RV} (h:Cur W B G g rs j x) (i:Nat) (hi:i<7) (u:Value) (y:RV) (hy:y.vals=x.vals.set i u) (hok:Ok1 W B G (rs.getD j noRng) y) :
  Cur (W.setCell ⟨g,j * 7+i,none⟩ u) B G g rs j y:=by
 obtain ⟨c,xs,h1,h2,h3,h4⟩:=h.here
 have hn:=own_not h2 (by decide)
 have hb:=But.one W g (j * 7+i) u
 have hlt:j<xs.length:=by rw [h1]; exact h.lt
 have own:(W.setCell ⟨g,j * 7+i,none⟩ u).ownsRow B 65 7 (.slice (some ⟨g,0,none⟩) rs.length c) rs.length ((xs.set j y).flatMap RV.vals):=by
  rw [← flat_set RV.vals 7 Range.rv_len xs j i u y hlt hi (by rw [h4]; exact hy)]
  exact (h2.stored (j * 7+i) u).1
 have oks:∀ k,k<rs.length→Ok1 (W.setCell ⟨g,j * 7+i,none⟩ u) B G (rs.getD k noRng) ((xs.set j y).getD k default):=fun k hk=>by
  by_cases e:k=j
  ·subst e
   rw [set_self hlt]
   exact hok.but hb hn
  ·rw [set_other e]
   exact (h3 k hk).but hb hn
 refine ⟨fun k q hk=>?_,h.told,h.lt,c,xs.set j y,by rw [List.length_set]; exact h1,own,oks,?_⟩
 ·by_cases e:k=g
  ·subst e
   rw [h.told] at hk
   injection hk with hk
   subst hk
   exact ⟨c,xs.set j y,by rw [List.length_set]; exact h1,own,oks⟩
  ·obtain ⟨c',ys,a1,a2,a3⟩:=h.typed k q hk
   refine ⟨c',ys,a1,own_but a2 hb fun b e1 e2=>?_,fun j hj=>(a3 j hj).but hb hn⟩
   injection e1 with e1
   have e1:k=b:=e1
   exact e (e1.trans e2)
 ·exact set_self hlt
end Go.Proofs.YtgakcdcfblgagaaGreatDoor.Copy
