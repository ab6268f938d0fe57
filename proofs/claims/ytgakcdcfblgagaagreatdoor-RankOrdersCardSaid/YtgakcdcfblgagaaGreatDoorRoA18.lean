/-
  What the theorem of the last text needs of these: RgRefGood, MoClone, SpPlain. Conditions: as each theorem states.
-/
import Derived.Test.YtgakcdcfblgagaaGreatDoorRoA1
import Derived.Test.YtgakcdcfblgagaaGreatDoorRoA7
import Derived.Test.YtgakcdcfblgagaaGreatDoorRoA10
import Derived.Test.YtgakcdcfblgagaaGreatDoorRoA14
import Derived.Test.YtgakcdcfblgagaaGreatDoorRoA15
import Derived.Test.YtgakcdcfblgagaaGreatDoorRoA16
import Derived.Test.YtgakcdcfblgagaaGreatDoorRoA17
import Derived.Deep.QuietTactic
import Derived.BigQuiet
import Derived.Lib.SliceRun
set_option maxRecDepth 100000
set_option maxHeartbeats 25600000
namespace Go.Proofs.YtgakcdcfblgagaaGreatDoor.Range
open Go.RowKit Num Ident Semver
theorem brackets_any (o k:Int) (w:World):Calls Tryz.prog 123 #[.int .i64 o,.int .i64 k] w fun e w'=>e=.returned (.bool (bracketed o k))∧w'=w:=by
 unfold bracketed
 go_enter Tryz.func123,Tryz.ntmps123
 by_cases h1:k=10
 ·go_wp2; go_ret
  exact ⟨by simp [h1],rfl⟩
 ·by_cases h2:k=9
  ·by_cases h3:o=10
   ·go_wp2; go_ret
    exact ⟨by simp [h2,h3],rfl⟩
   ·go_wp2; go_ret
    exact ⟨by simp [h2,h3],rfl⟩
  ·go_wp2; go_ret
   exact ⟨by simp [h1,h2],rfl⟩
theorem fits_out {k:Int} {v:Ver} {n:Nat} (h:k<0∨11<k):fits k v n=false:=by
 have ho:ofVersion k=false:=decide_eq_false (by omega)
 cases hs:sameV v noVer with
 | false=>exact fits_un ho hs
 | true =>
  rw [fits_zero ho hs,if_neg (by omega),if_neg (by omega),if_neg (by omega)]
def RefGoodAt (m:Nat):Prop:=∀ (r:Rng) (x:RV) (B d:Nat) (w:World),wt r≤m→LenOk r→Lies w (LtB B) r x→B≤w.heap.size→d≤70 →
  Calls Tryz.prog 69 #[x.agg,.int .i64 d] w fun e w'=>e=.returned (.bool (goodR r d))∧Below w.heap.size w w'
theorem refGoodR_step (m:Nat) (ih:RefGoodAt m):RefGoodAt (m+1):=by
  intro r x B d w hm hM hx hB hdd
  have IH:=Lib.hid ih
  clear ih
  have hs:=hx.says
  obtain ⟨f,hln,_,_⟩:=hs.subs
  have hfit:=hs.fit
  have HP:=Lib.hid hs.pre
  have HU:=Lib.hid hs.build
  have HB:Hid (Below w.heap.size w (w.alloc x)):=(Below.refl _ _).alloc (Nat.le_refl _) _
  have HRA:Hid (RAt (w.alloc x) w.heap.size x):=RAt.new w _ x
  have HL:=Lib.hid (hx.keep (KeepS.of_below (S:=LtB B) HB.out))
  have HG:Hid (goodR r d=(decide (d≤64) && fits x.kind x.v x.n && goodL x.kind r.subs d)):=by
   have e1:=hs.kind
   have e2:=hs.ver
   rw [← e1,← e2,← hln]
   obtain ⟨k,v,l⟩:=r
   exact goodR_eq k v l d
  rw [wt_eq] at hm
  have hxn:x.n≤9223372036854775807:=by rw [← hln]; exact hM.here
  have HLO:=Lib.hid hM
  have HLN:=Lib.hid hln
  clear hs hx hln hM
  unfold RV.agg
  generalize hR:goodR r d=R
  replace HG:Hid (R=(decide (d≤64) && fits x.kind x.v x.n && goodL x.kind r.subs d)):=hR.symm.trans HG.out
  clear hR
  go_enter Tryz.func69,Tryz.ntmps69
  go_upto_region 1 with (fail)
  generalize w.alloc x=W at HB HRA HL ⊢
  obtain ⟨y1,y2,c0,c1,c2,c3,c4,c5,c6⟩:=HRA.out
  by_cases hd:¬ d≤64
  ·have hd64:(64:Int)<(d:Int):=by omega
   obtain rfl:R=false:=by rw [HG.out,decide_eq_false hd,Bool.false_and,Bool.false_and]
   clear hd HG
   go_wp2; go_ret
   exact ⟨rfl,HB.out⟩
  replace hd:=Classical.not_not.1 hd
  have hd64:¬ (64:Int)<(d:Int):=by omega
  replace HG:Hid (R=(fits x.kind x.v x.n && goodL x.kind r.subs d)):=by unfold Hid; rw [HG.out,decide_eq_true hd,Bool.true_and]
  by_cases hk0:x.kind<0
  ·obtain rfl:R=false:=by rw [HG.out,fits_out (.inl hk0),Bool.false_and]
   clear HG
   go_wp2; go_ret
   exact ⟨rfl,HB.out⟩
  by_cases hk11:11<x.kind
  ·obtain rfl:R=false:=by rw [HG.out,fits_out (.inr hk11),Bool.false_and]
   clear HG
   go_wp2; go_ret
   exact ⟨rfl,HB.out⟩
  go_wp2_with fail
  refine (Semver.refSame_any x.v noVer x.A x.B none none x.c x.d 0 0 W (HP.out.kept HB.out) (HU.out.kept HB.out) (srow_none _ _) (srow_none _ _) hfit.pre hfit.build (Nat.zero_le _) (Nat.zero_le _)).mono ?_
  rintro e W2 ⟨rfl,hb⟩
  have HB2:=Lib.hid (HB.out.trans (hb.mono HB.out.size))
  have HRA2:=Lib.hid (HRA.out.kept hb HRA.out.1)
  have HL2:=Lib.hid (HL.out.keep (KeepS.of_below (S:=LtB B) hb))
  have hB2:B≤W2.heap.size:=Nat.le_trans hB HB2.out.size
  clear hb y1 y2 c0 c1 c2 c3 c4 c5 c6 HB HRA HL
  obtain ⟨y1,y2,c0,c1,c2,c3,c4,c5,c6⟩:=HRA2.out
  by_cases hv:1≤x.kind∧x.kind≤8
  ·obtain ⟨hv1,hv8⟩:=hv
   have HFV:Hid (fits x.kind x.v x.n=(goodV x.v && decide (x.n=0))):=fits_ver (decide_eq_true ⟨hv1,hv8⟩)
   go_wp2_with fail
   refine (Semver.refGood_all x.v x.A x.c x.B x.d W2 (HP.out.kept HB2.out) (HU.out.kept HB2.out) hfit.pre hfit.build hfit.pres hfit.builds).mono ?_
   rintro e W3 ⟨rfl,hb⟩
   have HB3:=Lib.hid (HB2.out.trans (hb.mono HB2.out.size))
   have HRA3:=Lib.hid (HRA2.out.kept hb HRA2.out.1)
   clear hb y1 y2 c0 c1 c2 c3 c4 c5 c6
   obtain ⟨y1,y2,c0,c1,c2,c3,c4,c5,c6⟩:=HRA3.out
   cases hgv:goodV x.v
   ·obtain rfl:R=false:=by rw [HG.out,HFV.out,hgv]; rfl
    clear HG HFV hgv
    go_wp2; go_ret
    exact ⟨rfl,HB3.out⟩
   ·by_cases hn:x.n=0
    ·obtain rfl:R=true:=by
      have h0:r.subs=[]:=List.eq_nil_of_length_eq_zero (HLN.out.trans hn)
      rw [HG.out,HFV.out,hgv,decide_eq_true hn,h0]; rfl
     have q0:((x.n:Int) == 0)=true:=beq_iff_eq.2 (by omega)
     clear HG HFV hgv hn
     go_wp2; go_ret
     exact ⟨rfl,HB3.out⟩
    ·have q0:((x.n:Int) == 0)=false:=beq_eq_false_iff_ne.2 (by omega)
     obtain rfl:R=false:=by rw [HG.out,HFV.out,hgv,decide_eq_false hn]; rfl
     clear HG HFV hgv hn
     go_wp2; go_ret
     exact ⟨rfl,HB3.out⟩
  have HOV:Hid (ofVersion x.kind=false):=decide_eq_false hv
  have hkk:x.kind=0∨x.kind=9∨x.kind=10∨x.kind=11:=by omega
  have hqv:¬ (1≤x.kind∧x.kind≤8):=hv
  cases hsv:sameV x.v noVer with
  | false =>
   obtain rfl:R=false:=by rw [HG.out,fits_un HOV.out hsv,Bool.false_and]
   clear HG
   by_cases h1:1≤x.kind
   ·have h8:¬ x.kind≤8:=by omega
    go_wp2; go_ret
    exact ⟨rfl,HB2.out⟩
   ·go_wp2; go_ret
    exact ⟨rfl,HB2.out⟩
  | true =>
   have HSV:=Lib.hid hsv
   clear hsv hv hqv
   rcases hkk with hK | hK | hK | hK
   ·have l1:¬ 1≤x.kind:=by omega
    have HK:=Lib.hid hK
    clear hK
    have q0:(x.kind == 0)=true:=by rw [HK.out]; rfl
    have q9:(x.kind == 9)=false:=by rw [HK.out]; rfl
    have q10:(x.kind == 10)=false:=by rw [HK.out]; rfl
    have q11:(x.kind == 11)=false:=by rw [HK.out]; rfl
    have HFZ:Hid (fits x.kind x.v x.n=decide (x.n=0)):=by unfold Hid; rw [fits_zero HOV.out HSV.out,HK.out]; rfl
    by_cases hn:x.n=0
    ·replace HG:Hid (R=goodL x.kind r.subs d):=by unfold Hid; rw [HG.out,HFZ.out,decide_eq_true hn,Bool.true_and]
     have n1:¬ (0:Int)<(x.n:Int):=by omega
     go_wp2
     go_loopw [6] (fun iv W'=>∃ k:Nat,k≤x.n∧iv=.int .i64 k∧Hid (Below W2.heap.size W2 W')∧Hid (∀ j,j<k→goodR (r.subs.getD j noRng) (d+opens x.kind (r.subs.getD j noRng).kind)=true)) (fun iv _=>x.n - (intOf iv).toNat)
     case atStart=>exact ⟨0,Nat.zero_le _,rfl,Below.refl _ _,fun j hj=>absurd hj (Nat.not_lt_zero j)⟩
     case round =>
      obtain ⟨k,hk,rfl,HB3,HQ⟩:=hrel
      by_cases hlt:k<x.n
      ·exfalso; omega
      ·obtain rfl:k=x.n:=by omega
       have HA:=Lib.hid (goodL_at.2 fun j hj=>HQ.out j (by rw [← HLN.out]; exact hj))
       obtain rfl:R=true:=HG.out.trans HA.out
       have HR3:=Lib.hid (HRA2.out.kept HB3.out HRA2.out.1)
       obtain ⟨y1,y2,c0,c1,c2,c3,c4,c5,c6⟩:=HR3.out
       clear HG
       go_wp2
       go_ret
       exact ⟨rfl,HB2.out.trans (HB3.out.mono HB2.out.size)⟩
    ·have n1:(0:Int)<(x.n:Int):=by omega
     have HN:=Lib.hid hn
     clear hn
     obtain rfl:R=false:=by rw [HG.out,HFZ.out,decide_eq_false HN.out,Bool.false_and]
     clear HG HFZ
     go_wp2; go_ret
     exact ⟨rfl,HB2.out⟩
   ·have l1:1≤x.kind:=by omega
    have l8:¬ x.kind≤8:=by omega
    have HK:=Lib.hid hK
    clear hK
    have q0:(x.kind == 0)=false:=by rw [HK.out]; rfl
    have q9:(x.kind == 9)=true:=by rw [HK.out]; rfl
    have q10:(x.kind == 10)=false:=by rw [HK.out]; rfl
    have q11:(x.kind == 11)=false:=by rw [HK.out]; rfl
    have HFZ:Hid (fits x.kind x.v x.n=decide (2≤x.n)):=by unfold Hid; rw [fits_zero HOV.out HSV.out,HK.out]; rfl
    by_cases hn:2≤x.n
    ·replace HG:Hid (R=goodL x.kind r.subs d):=by unfold Hid; rw [HG.out,HFZ.out,decide_eq_true hn,Bool.true_and]
     have n1:¬ (x.n:Int)<2:=by omega
     go_wp2
     go_loopw [6] (fun iv W'=>∃ k:Nat,k≤x.n∧iv=.int .i64 k∧Hid (Below W2.heap.size W2 W')∧Hid (∀ j,j<k→goodR (r.subs.getD j noRng) (d+opens x.kind (r.subs.getD j noRng).kind)=true)) (fun iv _=>x.n - (intOf iv).toNat)
     case atStart=>exact ⟨0,Nat.zero_le _,rfl,Below.refl _ _,fun j hj=>absurd hj (Nat.not_lt_zero j)⟩
     case round =>
      obtain ⟨k,hk,rfl,HB3,HQ⟩:=hrel
      by_cases hlt:k<x.n
      ·obtain ⟨b,o,c,hLe,hSb,hcl,hcy⟩:=HL2.out.says.subs.one hlt
       have hll:k<r.subs.length:=by rw [HLN.out]; exact hlt
       have hmem:r.subs.getD k noRng ∈ r.subs:=by
        rw [List.getD_eq_getElem?_getD,List.getElem?_eq_getElem (by omega)]; exact List.getElem_mem _
       have hwt:wt (r.subs.getD k noRng)≤m:=by have:=wt_mem hmem; omega
       have hlo:=HLO.out.sub hmem
       obtain ⟨q,hqq⟩:∃ q,q=r.subs.getD k noRng:=⟨_,rfl⟩
       have HQE:Hid (goodR q (d+opens x.kind c.kind)=goodR (r.subs.getD k noRng) (d+opens x.kind (r.subs.getD k noRng).kind)):=by unfold Hid; rw [← hcy.says.kind,← hqq]
       rw [← hqq] at hcy hwt hlo
       clear hqq hmem
       have HCk:Hid (CellsAt wr b (o+k * 7) c):=hcl.keep (KeepS.of_below (S:=LtB B) HB3.out) hSb
       have HLc:Hid (Lies wr (LtB B) q c):=hcy.keep (KeepS.of_below (S:=LtB B) HB3.out)
       have HR3:=Lib.hid (HRA2.out.kept HB3.out HRA2.out.1)
       clear hcl hcy
       rw [hLe]
       obtain ⟨y1,y2,c0,c1,c2,c3,c4,c5,c6⟩:=HR3.out
       rw [hLe] at c6
       go_upto_region 14 with (fail)
       clear y1 y2 c0 c1 c2 c3 c4 c5 c6
       replace HB3:Hid (Below W2.heap.size W2 wr.drew):=HB3.out.drew
       replace HR3:Hid (RAt wr.drew w.heap.size x):=HR3.out
       replace HCk:Hid (CellsAt wr.drew b (o+k * 7) c):=HCk.out
       replace HLc:Hid (Lies wr.drew (LtB B) q c):=HLc.out.keep (KeepS.of_below (S:=LtB B) (Below.refl _ _).drew)
       have hBV:B≤wr.drew.heap.size:=Nat.le_trans hB2 HB3.out.size
       cases hbk:bracketed x.kind c.kind with
       | true =>
        have hop:opens x.kind c.kind=1:=by unfold opens; rw [hbk,HK.out]; rfl
        rw [hop] at HQE
        have HBK:=Lib.hid hbk
        clear hbk hop
        refine wp_region_held_drew (S:=fun w'=>RAt w' w.heap.size x∧Range.CellsAt w' b (o+k * 7) c) (by kernel_rfl) ⟨HR3.out,HCk.out⟩ (fun hHeld=>?_)
        generalize wr.drew=V at HB3 HR3 HCk HLc hBV hHeld ⊢
        refine tk 0 rfl (.pointer (some ⟨w.heap.size,0,none⟩)) ?_
        refine tk 1 rfl x.kind ?_ fun w' hS'=>by obtain ⟨y1,y2,c0,c1,c2,c3,c4,c5,c6⟩:=hS'.1; go_simp
        refine tk 2 rfl (.pointer (some ⟨w.heap.size,6,none⟩)) ?_
        refine tk 3 rfl (.slice (some ⟨b,o,none⟩) x.n x.e) ?_ fun w' hS'=>by obtain ⟨y1,y2,c0,c1,c2,c3,c4,c5,c6⟩:=hS'.1; rw [hLe] at c6; go_simp
        refine tk 4 rfl (.int .i64 k) ?_
        refine tk 5 rfl (.pointer (some ⟨b,o+k * 7,none⟩)) ?_
        refine tk 6 rfl (.pointer (some ⟨b,o+k * 7,none⟩)) ?_
        refine tk 7 rfl c.kind ?_ fun w' hS'=>by have:=hS'.2.cells.1; go_simp
        refine cl 8 rfl fun K hK=>?_
        go_simp
        refine (brackets_any x.kind c.kind _).mono ?_
        rintro e wm1 ⟨rfl,rfl⟩
        have hb:=True.intro
        rw [HBK.out]
        clear hb hHeld
        refine hK.out _ _ ⟨HR3.out,HCk.out⟩ (fun hHeld=>?_)
        clear hK K
        try simp only [Act.put,p1,p2,p3]
        refine wpAnyH_done (by kernel_rfl) ?_ _
        obtain ⟨y1,y2,c0,c1,c2,c3,c4,c5,c6⟩:=HR3.out
        obtain ⟨e0,e1,e2,e3,e4,e5,e6⟩:=HCk.out.cells
        rw [hLe] at c6
        go_wp2_with fail
        refine (IH.out q c B (d+1) wm1 hwt hlo HLc.out hBV (by omega)).mono ?_
        rintro e V2 ⟨rfl,hb⟩
        have HB5:=Lib.hid (HB3.out.trans (hb.mono HB3.out.size))
        clear hb y1 y2 c0 c1 c2 c3 c4 c5 c6 e0 e1 e2 e3 e4 e5 e6 HR3 HCk HLc
        cases hqb:goodR q (d+1)
        ·obtain rfl:R=false:=HG.out.trans (goodL_no hll (HQE.out.symm.trans hqb))
         clear HQ HG
         go_wp2
         go_ret
         exact ⟨rfl,HB2.out.trans (HB5.out.mono HB2.out.size)⟩
        ·go_wp2
         exact ⟨⟨k+1,by omega,by go_num,HB5.out,fun j hj=>by
          by_cases hjk:j=k
          ·subst hjk; exact HQE.out.symm.trans hqb
          ·exact HQ.out j (by omega)⟩,by simp [intOf]; omega⟩
       | false =>
        have hop:opens x.kind c.kind=0:=by unfold opens; rw [hbk,HK.out]; rfl
        rw [hop] at HQE
        have HBK:=Lib.hid hbk
        clear hbk hop
        refine wp_region_held_drew (S:=fun w'=>RAt w' w.heap.size x∧Range.CellsAt w' b (o+k * 7) c) (by kernel_rfl) ⟨HR3.out,HCk.out⟩ (fun hHeld=>?_)
        generalize wr.drew=V at HB3 HR3 HCk HLc hBV hHeld ⊢
        refine tk 0 rfl (.pointer (some ⟨w.heap.size,0,none⟩)) ?_
        refine tk 1 rfl x.kind ?_ fun w' hS'=>by obtain ⟨y1,y2,c0,c1,c2,c3,c4,c5,c6⟩:=hS'.1; go_simp
        refine tk 2 rfl (.pointer (some ⟨w.heap.size,6,none⟩)) ?_
        refine tk 3 rfl (.slice (some ⟨b,o,none⟩) x.n x.e) ?_ fun w' hS'=>by obtain ⟨y1,y2,c0,c1,c2,c3,c4,c5,c6⟩:=hS'.1; rw [hLe] at c6; go_simp
        refine tk 4 rfl (.int .i64 k) ?_
        refine tk 5 rfl (.pointer (some ⟨b,o+k * 7,none⟩)) ?_
        refine tk 6 rfl (.pointer (some ⟨b,o+k * 7,none⟩)) ?_
        refine tk 7 rfl c.kind ?_ fun w' hS'=>by have:=hS'.2.cells.1; go_simp
        refine cl 8 rfl fun K hK=>?_
        go_simp
        refine (brackets_any x.kind c.kind _).mono ?_
        rintro e wm1 ⟨rfl,rfl⟩
        have hb:=True.intro
        rw [HBK.out]
        clear hb hHeld
        refine hK.out _ _ ⟨HR3.out,HCk.out⟩ (fun hHeld=>?_)
        clear hK K
        try simp only [Act.put,p1,p2,p3]
        refine wpAnyH_done (by kernel_rfl) ?_ _
        obtain ⟨y1,y2,c0,c1,c2,c3,c4,c5,c6⟩:=HR3.out
        obtain ⟨e0,e1,e2,e3,e4,e5,e6⟩:=HCk.out.cells
        rw [hLe] at c6
        go_wp2_with fail
        refine (IH.out q c B (d+0) wm1 hwt hlo HLc.out hBV (by omega)).mono ?_
        rintro e V2 ⟨rfl,hb⟩
        have HB5:=Lib.hid (HB3.out.trans (hb.mono HB3.out.size))
        clear hb y1 y2 c0 c1 c2 c3 c4 c5 c6 e0 e1 e2 e3 e4 e5 e6 HR3 HCk HLc
        cases hqb:goodR q (d+0)
        ·obtain rfl:R=false:=HG.out.trans (goodL_no hll (HQE.out.symm.trans hqb))
         clear HQ HG
         go_wp2
         go_ret
         exact ⟨rfl,HB2.out.trans (HB5.out.mono HB2.out.size)⟩
        ·go_wp2
         exact ⟨⟨k+1,by omega,by go_num,HB5.out,fun j hj=>by
          by_cases hjk:j=k
          ·subst hjk; exact HQE.out.symm.trans hqb
          ·exact HQ.out j (by omega)⟩,by simp [intOf]; omega⟩
      ·obtain rfl:k=x.n:=by omega
       have HA:=Lib.hid (goodL_at.2 fun j hj=>HQ.out j (by rw [← HLN.out]; exact hj))
       obtain rfl:R=true:=HG.out.trans HA.out
       have HR3:=Lib.hid (HRA2.out.kept HB3.out HRA2.out.1)
       obtain ⟨y1,y2,c0,c1,c2,c3,c4,c5,c6⟩:=HR3.out
       clear HG
       go_wp2
       go_ret
       exact ⟨rfl,HB2.out.trans (HB3.out.mono HB2.out.size)⟩
    ·have n1:(x.n:Int)<2:=by omega
     have HN:=Lib.hid hn
     clear hn
     obtain rfl:R=false:=by rw [HG.out,HFZ.out,decide_eq_false HN.out,Bool.false_and]
     clear HG HFZ
     go_wp2; go_ret
     exact ⟨rfl,HB2.out⟩
   ·have l1:1≤x.kind:=by omega
    have l8:¬ x.kind≤8:=by omega
    have HK:=Lib.hid hK
    clear hK
    have q0:(x.kind == 0)=false:=by rw [HK.out]; rfl
    have q9:(x.kind == 9)=false:=by rw [HK.out]; rfl
    have q10:(x.kind == 10)=true:=by rw [HK.out]; rfl
    have q11:(x.kind == 11)=false:=by rw [HK.out]; rfl
    have HFZ:Hid (fits x.kind x.v x.n=decide (2≤x.n)):=by unfold Hid; rw [fits_zero HOV.out HSV.out,HK.out]; rfl
    by_cases hn:2≤x.n
    ·replace HG:Hid (R=goodL x.kind r.subs d):=by unfold Hid; rw [HG.out,HFZ.out,decide_eq_true hn,Bool.true_and]
     have n1:¬ (x.n:Int)<2:=by omega
     go_wp2
     go_loopw [6] (fun iv W'=>∃ k:Nat,k≤x.n∧iv=.int .i64 k∧Hid (Below W2.heap.size W2 W')∧Hid (∀ j,j<k→goodR (r.subs.getD j noRng) (d+opens x.kind (r.subs.getD j noRng).kind)=true)) (fun iv _=>x.n - (intOf iv).toNat)
     case atStart=>exact ⟨0,Nat.zero_le _,rfl,Below.refl _ _,fun j hj=>absurd hj (Nat.not_lt_zero j)⟩
     case round =>
      obtain ⟨k,hk,rfl,HB3,HQ⟩:=hrel
      by_cases hlt:k<x.n
      ·obtain ⟨b,o,c,hLe,hSb,hcl,hcy⟩:=HL2.out.says.subs.one hlt
       have hll:k<r.subs.length:=by rw [HLN.out]; exact hlt
       have hmem:r.subs.getD k noRng ∈ r.subs:=by
        rw [List.getD_eq_getElem?_getD,List.getElem?_eq_getElem (by omega)]; exact List.getElem_mem _
       have hwt:wt (r.subs.getD k noRng)≤m:=by have:=wt_mem hmem; omega
       have hlo:=HLO.out.sub hmem
       obtain ⟨q,hqq⟩:∃ q,q=r.subs.getD k noRng:=⟨_,rfl⟩
       have HQE:Hid (goodR q (d+opens x.kind c.kind)=goodR (r.subs.getD k noRng) (d+opens x.kind (r.subs.getD k noRng).kind)):=by unfold Hid; rw [← hcy.says.kind,← hqq]
       rw [← hqq] at hcy hwt hlo
       clear hqq hmem
       have HCk:Hid (CellsAt wr b (o+k * 7) c):=hcl.keep (KeepS.of_below (S:=LtB B) HB3.out) hSb
       have HLc:Hid (Lies wr (LtB B) q c):=hcy.keep (KeepS.of_below (S:=LtB B) HB3.out)
       have HR3:=Lib.hid (HRA2.out.kept HB3.out HRA2.out.1)
       clear hcl hcy
       rw [hLe]
       obtain ⟨y1,y2,c0,c1,c2,c3,c4,c5,c6⟩:=HR3.out
       rw [hLe] at c6
       go_upto_region 14 with (fail)
       clear y1 y2 c0 c1 c2 c3 c4 c5 c6
       replace HB3:Hid (Below W2.heap.size W2 wr.drew):=HB3.out.drew
       replace HR3:Hid (RAt wr.drew w.heap.size x):=HR3.out
       replace HCk:Hid (CellsAt wr.drew b (o+k * 7) c):=HCk.out
       replace HLc:Hid (Lies wr.drew (LtB B) q c):=HLc.out.keep (KeepS.of_below (S:=LtB B) (Below.refl _ _).drew)
       have hBV:B≤wr.drew.heap.size:=Nat.le_trans hB2 HB3.out.size
       cases hbk:bracketed x.kind c.kind with
       | true =>
        have hop:opens x.kind c.kind=1:=by unfold opens; rw [hbk,HK.out]; rfl
        rw [hop] at HQE
        have HBK:=Lib.hid hbk
        clear hbk hop
        refine wp_region_held_drew (S:=fun w'=>RAt w' w.heap.size x∧Range.CellsAt w' b (o+k * 7) c) (by kernel_rfl) ⟨HR3.out,HCk.out⟩ (fun hHeld=>?_)
        generalize wr.drew=V at HB3 HR3 HCk HLc hBV hHeld ⊢
        refine tk 0 rfl (.pointer (some ⟨w.heap.size,0,none⟩)) ?_
        refine tk 1 rfl x.kind ?_ fun w' hS'=>by obtain ⟨y1,y2,c0,c1,c2,c3,c4,c5,c6⟩:=hS'.1; go_simp
        refine tk 2 rfl (.pointer (some ⟨w.heap.size,6,none⟩)) ?_
        refine tk 3 rfl (.slice (some ⟨b,o,none⟩) x.n x.e) ?_ fun w' hS'=>by obtain ⟨y1,y2,c0,c1,c2,c3,c4,c5,c6⟩:=hS'.1; rw [hLe] at c6; go_simp
        refine tk 4 rfl (.int .i64 k) ?_
        refine tk 5 rfl (.pointer (some ⟨b,o+k * 7,none⟩)) ?_
        refine tk 6 rfl (.pointer (some ⟨b,o+k * 7,none⟩)) ?_
        refine tk 7 rfl c.kind ?_ fun w' hS'=>by have:=hS'.2.cells.1; go_simp
        refine cl 8 rfl fun K hK=>?_
        go_simp
        refine (brackets_any x.kind c.kind _).mono ?_
        rintro e wm1 ⟨rfl,rfl⟩
        have hb:=True.intro
        rw [HBK.out]
        clear hb hHeld
        refine hK.out _ _ ⟨HR3.out,HCk.out⟩ (fun hHeld=>?_)
        clear hK K
        try simp only [Act.put,p1,p2,p3]
        refine wpAnyH_done (by kernel_rfl) ?_ _
        obtain ⟨y1,y2,c0,c1,c2,c3,c4,c5,c6⟩:=HR3.out
        obtain ⟨e0,e1,e2,e3,e4,e5,e6⟩:=HCk.out.cells
        rw [hLe] at c6
        go_wp2_with fail
        refine (IH.out q c B (d+1) wm1 hwt hlo HLc.out hBV (by omega)).mono ?_
        rintro e V2 ⟨rfl,hb⟩
        have HB5:=Lib.hid (HB3.out.trans (hb.mono HB3.out.size))
        clear hb y1 y2 c0 c1 c2 c3 c4 c5 c6 e0 e1 e2 e3 e4 e5 e6 HR3 HCk HLc
        cases hqb:goodR q (d+1)
        ·obtain rfl:R=false:=HG.out.trans (goodL_no hll (HQE.out.symm.trans hqb))
         clear HQ HG
         go_wp2
         go_ret
         exact ⟨rfl,HB2.out.trans (HB5.out.mono HB2.out.size)⟩
        ·go_wp2
         exact ⟨⟨k+1,by omega,by go_num,HB5.out,fun j hj=>by
          by_cases hjk:j=k
          ·subst hjk; exact HQE.out.symm.trans hqb
          ·exact HQ.out j (by omega)⟩,by simp [intOf]; omega⟩
       | false =>
        have hop:opens x.kind c.kind=0:=by unfold opens; rw [hbk,HK.out]; rfl
        rw [hop] at HQE
        have HBK:=Lib.hid hbk
        clear hbk hop
        refine wp_region_held_drew (S:=fun w'=>RAt w' w.heap.size x∧Range.CellsAt w' b (o+k * 7) c) (by kernel_rfl) ⟨HR3.out,HCk.out⟩ (fun hHeld=>?_)
        generalize wr.drew=V at HB3 HR3 HCk HLc hBV hHeld ⊢
        refine tk 0 rfl (.pointer (some ⟨w.heap.size,0,none⟩)) ?_
        refine tk 1 rfl x.kind ?_ fun w' hS'=>by obtain ⟨y1,y2,c0,c1,c2,c3,c4,c5,c6⟩:=hS'.1; go_simp
        refine tk 2 rfl (.pointer (some ⟨w.heap.size,6,none⟩)) ?_
        refine tk 3 rfl (.slice (some ⟨b,o,none⟩) x.n x.e) ?_ fun w' hS'=>by obtain ⟨y1,y2,c0,c1,c2,c3,c4,c5,c6⟩:=hS'.1; rw [hLe] at c6; go_simp
        refine tk 4 rfl (.int .i64 k) ?_
        refine tk 5 rfl (.pointer (some ⟨b,o+k * 7,none⟩)) ?_
        refine tk 6 rfl (.pointer (some ⟨b,o+k * 7,none⟩)) ?_
        refine tk 7 rfl c.kind ?_ fun w' hS'=>by have:=hS'.2.cells.1; go_simp
        refine cl 8 rfl fun K hK=>?_
        go_simp
        refine (brackets_any x.kind c.kind _).mono ?_
        rintro e wm1 ⟨rfl,rfl⟩
        have hb:=True.intro
        rw [HBK.out]
        clear hb hHeld
        refine hK.out _ _ ⟨HR3.out,HCk.out⟩ (fun hHeld=>?_)
        clear hK K
        try simp only [Act.put,p1,p2,p3]
        refine wpAnyH_done (by kernel_rfl) ?_ _
        obtain ⟨y1,y2,c0,c1,c2,c3,c4,c5,c6⟩:=HR3.out
        obtain ⟨e0,e1,e2,e3,e4,e5,e6⟩:=HCk.out.cells
        rw [hLe] at c6
        go_wp2_with fail
        refine (IH.out q c B (d+0) wm1 hwt hlo HLc.out hBV (by omega)).mono ?_
        rintro e V2 ⟨rfl,hb⟩
        have HB5:=Lib.hid (HB3.out.trans (hb.mono HB3.out.size))
        clear hb y1 y2 c0 c1 c2 c3 c4 c5 c6 e0 e1 e2 e3 e4 e5 e6 HR3 HCk HLc
        cases hqb:goodR q (d+0)
        ·obtain rfl:R=false:=HG.out.trans (goodL_no hll (HQE.out.symm.trans hqb))
         clear HQ HG
         go_wp2
         go_ret
         exact ⟨rfl,HB2.out.trans (HB5.out.mono HB2.out.size)⟩
        ·go_wp2
         exact ⟨⟨k+1,by omega,by go_num,HB5.out,fun j hj=>by
          by_cases hjk:j=k
          ·subst hjk; exact HQE.out.symm.trans hqb
          ·exact HQ.out j (by omega)⟩,by simp [intOf]; omega⟩
      ·obtain rfl:k=x.n:=by omega
       have HA:=Lib.hid (goodL_at.2 fun j hj=>HQ.out j (by rw [← HLN.out]; exact hj))
       obtain rfl:R=true:=HG.out.trans HA.out
       have HR3:=Lib.hid (HRA2.out.kept HB3.out HRA2.out.1)
       obtain ⟨y1,y2,c0,c1,c2,c3,c4,c5,c6⟩:=HR3.out
       clear HG
       go_wp2
       go_ret
       exact ⟨rfl,HB2.out.trans (HB3.out.mono HB2.out.size)⟩
    ·have n1:(x.n:Int)<2:=by omega
     have HN:=Lib.hid hn
     clear hn
     obtain rfl:R=false:=by rw [HG.out,HFZ.out,decide_eq_false HN.out,Bool.false_and]
     clear HG HFZ
     go_wp2; go_ret
     exact ⟨rfl,HB2.out⟩
   ·have l1:1≤x.kind:=by omega
    have l8:¬ x.kind≤8:=by omega
    have HK:=Lib.hid hK
    clear hK
    have q0:(x.kind == 0)=false:=by rw [HK.out]; rfl
    have q9:(x.kind == 9)=false:=by rw [HK.out]; rfl
    have q10:(x.kind == 10)=false:=by rw [HK.out]; rfl
    have q11:(x.kind == 11)=true:=by rw [HK.out]; rfl
    have HFZ:Hid (fits x.kind x.v x.n=decide (x.n=1)):=by unfold Hid; rw [fits_zero HOV.out HSV.out,HK.out]; rfl
    by_cases hn:x.n=1
    ·replace HG:Hid (R=goodL x.kind r.subs d):=by unfold Hid; rw [HG.out,HFZ.out,decide_eq_true hn,Bool.true_and]
     have n1:((x.n:Int) == 1)=true:=beq_iff_eq.2 (by omega)
     have n2:((x.n:Int) != 1)=false:=by rw [bne,n1]; rfl
     go_wp2
     go_loopw [6] (fun iv W'=>∃ k:Nat,k≤x.n∧iv=.int .i64 k∧Hid (Below W2.heap.size W2 W')∧Hid (∀ j,j<k→goodR (r.subs.getD j noRng) (d+opens x.kind (r.subs.getD j noRng).kind)=true)) (fun iv _=>x.n - (intOf iv).toNat)
     case atStart=>exact ⟨0,Nat.zero_le _,rfl,Below.refl _ _,fun j hj=>absurd hj (Nat.not_lt_zero j)⟩
     case round =>
      obtain ⟨k,hk,rfl,HB3,HQ⟩:=hrel
      by_cases hlt:k<x.n
      ·obtain ⟨b,o,c,hLe,hSb,hcl,hcy⟩:=HL2.out.says.subs.one hlt
       have hll:k<r.subs.length:=by rw [HLN.out]; exact hlt
       have hmem:r.subs.getD k noRng ∈ r.subs:=by
        rw [List.getD_eq_getElem?_getD,List.getElem?_eq_getElem (by omega)]; exact List.getElem_mem _
       have hwt:wt (r.subs.getD k noRng)≤m:=by have:=wt_mem hmem; omega
       have hlo:=HLO.out.sub hmem
       obtain ⟨q,hqq⟩:∃ q,q=r.subs.getD k noRng:=⟨_,rfl⟩
       have HQE:Hid (goodR q (d+opens x.kind c.kind)=goodR (r.subs.getD k noRng) (d+opens x.kind (r.subs.getD k noRng).kind)):=by unfold Hid; rw [← hcy.says.kind,← hqq]
       rw [← hqq] at hcy hwt hlo
       clear hqq hmem
       have HCk:Hid (CellsAt wr b (o+k * 7) c):=hcl.keep (KeepS.of_below (S:=LtB B) HB3.out) hSb
       have HLc:Hid (Lies wr (LtB B) q c):=hcy.keep (KeepS.of_below (S:=LtB B) HB3.out)
       have HR3:=Lib.hid (HRA2.out.kept HB3.out HRA2.out.1)
       clear hcl hcy
       rw [hLe]
       obtain ⟨y1,y2,c0,c1,c2,c3,c4,c5,c6⟩:=HR3.out
       rw [hLe] at c6
       go_upto_region 14 with (fail)
       clear y1 y2 c0 c1 c2 c3 c4 c5 c6
       replace HB3:Hid (Below W2.heap.size W2 wr.drew):=HB3.out.drew
       replace HR3:Hid (RAt wr.drew w.heap.size x):=HR3.out
       replace HCk:Hid (CellsAt wr.drew b (o+k * 7) c):=HCk.out
       replace HLc:Hid (Lies wr.drew (LtB B) q c):=HLc.out.keep (KeepS.of_below (S:=LtB B) (Below.refl _ _).drew)
       have hBV:B≤wr.drew.heap.size:=Nat.le_trans hB2 HB3.out.size
       cases hbk:bracketed x.kind c.kind with
       | true =>
        have hop:opens x.kind c.kind=2:=by unfold opens; rw [hbk,HK.out]; rfl
        rw [hop] at HQE
        have HBK:=Lib.hid hbk
        clear hbk hop
        refine wp_region_held_drew (S:=fun w'=>RAt w' w.heap.size x∧Range.CellsAt w' b (o+k * 7) c) (by kernel_rfl) ⟨HR3.out,HCk.out⟩ (fun hHeld=>?_)
        generalize wr.drew=V at HB3 HR3 HCk HLc hBV hHeld ⊢
        refine tk 0 rfl (.pointer (some ⟨w.heap.size,0,none⟩)) ?_
        refine tk 1 rfl x.kind ?_ fun w' hS'=>by obtain ⟨y1,y2,c0,c1,c2,c3,c4,c5,c6⟩:=hS'.1; go_simp
        refine tk 2 rfl (.pointer (some ⟨w.heap.size,6,none⟩)) ?_
        refine tk 3 rfl (.slice (some ⟨b,o,none⟩) x.n x.e) ?_ fun w' hS'=>by obtain ⟨y1,y2,c0,c1,c2,c3,c4,c5,c6⟩:=hS'.1; rw [hLe] at c6; go_simp
        refine tk 4 rfl (.int .i64 k) ?_
        refine tk 5 rfl (.pointer (some ⟨b,o+k * 7,none⟩)) ?_
        refine tk 6 rfl (.pointer (some ⟨b,o+k * 7,none⟩)) ?_
        refine tk 7 rfl c.kind ?_ fun w' hS'=>by have:=hS'.2.cells.1; go_simp
        refine cl 8 rfl fun K hK=>?_
        go_simp
        refine (brackets_any x.kind c.kind _).mono ?_
        rintro e wm1 ⟨rfl,rfl⟩
        have hb:=True.intro
        rw [HBK.out]
        clear hb hHeld
        refine hK.out _ _ ⟨HR3.out,HCk.out⟩ (fun hHeld=>?_)
        clear hK K
        try simp only [Act.put,p1,p2,p3]
        refine wpAnyH_done (by kernel_rfl) ?_ _
        obtain ⟨y1,y2,c0,c1,c2,c3,c4,c5,c6⟩:=HR3.out
        obtain ⟨e0,e1,e2,e3,e4,e5,e6⟩:=HCk.out.cells
        rw [hLe] at c6
        go_wp2_with fail
        refine (IH.out q c B (d+2) wm1 hwt hlo HLc.out hBV (by omega)).mono ?_
        rintro e V2 ⟨rfl,hb⟩
        have HB5:=Lib.hid (HB3.out.trans (hb.mono HB3.out.size))
        clear hb y1 y2 c0 c1 c2 c3 c4 c5 c6 e0 e1 e2 e3 e4 e5 e6 HR3 HCk HLc
        cases hqb:goodR q (d+2)
        ·obtain rfl:R=false:=HG.out.trans (goodL_no hll (HQE.out.symm.trans hqb))
         clear HQ HG
         go_wp2
         go_ret
         exact ⟨rfl,HB2.out.trans (HB5.out.mono HB2.out.size)⟩
        ·go_wp2
         exact ⟨⟨k+1,by omega,by go_num,HB5.out,fun j hj=>by
          by_cases hjk:j=k
          ·subst hjk; exact HQE.out.symm.trans hqb
          ·exact HQ.out j (by omega)⟩,by simp [intOf]; omega⟩
       | false =>
        have hop:opens x.kind c.kind=1:=by unfold opens; rw [hbk,HK.out]; rfl
        rw [hop] at HQE
        have HBK:=Lib.hid hbk
        clear hbk hop
        refine wp_region_held_drew (S:=fun w'=>RAt w' w.heap.size x∧Range.CellsAt w' b (o+k * 7) c) (by kernel_rfl) ⟨HR3.out,HCk.out⟩ (fun hHeld=>?_)
        generalize wr.drew=V at HB3 HR3 HCk HLc hBV hHeld ⊢
        refine tk 0 rfl (.pointer (some ⟨w.heap.size,0,none⟩)) ?_
        refine tk 1 rfl x.kind ?_ fun w' hS'=>by obtain ⟨y1,y2,c0,c1,c2,c3,c4,c5,c6⟩:=hS'.1; go_simp
        refine tk 2 rfl (.pointer (some ⟨w.heap.size,6,none⟩)) ?_
        refine tk 3 rfl (.slice (some ⟨b,o,none⟩) x.n x.e) ?_ fun w' hS'=>by obtain ⟨y1,y2,c0,c1,c2,c3,c4,c5,c6⟩:=hS'.1; rw [hLe] at c6; go_simp
        refine tk 4 rfl (.int .i64 k) ?_
        refine tk 5 rfl (.pointer (some ⟨b,o+k * 7,none⟩)) ?_
        refine tk 6 rfl (.pointer (some ⟨b,o+k * 7,none⟩)) ?_
        refine tk 7 rfl c.kind ?_ fun w' hS'=>by have:=hS'.2.cells.1; go_simp
        refine cl 8 rfl fun K hK=>?_
        go_simp
        refine (brackets_any x.kind c.kind _).mono ?_
        rintro e wm1 ⟨rfl,rfl⟩
        have hb:=True.intro
        rw [HBK.out]
        clear hb hHeld
        refine hK.out _ _ ⟨HR3.out,HCk.out⟩ (fun hHeld=>?_)
        clear hK K
        try simp only [Act.put,p1,p2,p3]
        refine wpAnyH_done (by kernel_rfl) ?_ _
        obtain ⟨y1,y2,c0,c1,c2,c3,c4,c5,c6⟩:=HR3.out
        obtain ⟨e0,e1,e2,e3,e4,e5,e6⟩:=HCk.out.cells
        rw [hLe] at c6
        go_wp2_with fail
        refine (IH.out q c B (d+1) wm1 hwt hlo HLc.out hBV (by omega)).mono ?_
        rintro e V2 ⟨rfl,hb⟩
        have HB5:=Lib.hid (HB3.out.trans (hb.mono HB3.out.size))
        clear hb y1 y2 c0 c1 c2 c3 c4 c5 c6 e0 e1 e2 e3 e4 e5 e6 HR3 HCk HLc
        cases hqb:goodR q (d+1)
        ·obtain rfl:R=false:=HG.out.trans (goodL_no hll (HQE.out.symm.trans hqb))
         clear HQ HG
         go_wp2
         go_ret
         exact ⟨rfl,HB2.out.trans (HB5.out.mono HB2.out.size)⟩
        ·go_wp2
         exact ⟨⟨k+1,by omega,by go_num,HB5.out,fun j hj=>by
          by_cases hjk:j=k
          ·subst hjk; exact HQE.out.symm.trans hqb
          ·exact HQ.out j (by omega)⟩,by simp [intOf]; omega⟩
      ·obtain rfl:k=x.n:=by omega
       have HA:=Lib.hid (goodL_at.2 fun j hj=>HQ.out j (by rw [← HLN.out]; exact hj))
       obtain rfl:R=true:=HG.out.trans HA.out
       have HR3:=Lib.hid (HRA2.out.kept HB3.out HRA2.out.1)
       obtain ⟨y1,y2,c0,c1,c2,c3,c4,c5,c6⟩:=HR3.out
       clear HG
       go_wp2
       go_ret
       exact ⟨rfl,HB2.out.trans (HB3.out.mono HB2.out.size)⟩
    ·have n1:((x.n:Int) == 1)=false:=beq_eq_false_iff_ne.2 (by omega)
     have n2:((x.n:Int) != 1)=true:=by rw [bne,n1]; rfl
     have HN:=Lib.hid hn
     clear hn
     obtain rfl:R=false:=by rw [HG.out,HFZ.out,decide_eq_false HN.out,Bool.false_and]
     clear HG HFZ
     go_wp2; go_ret
     exact ⟨rfl,HB2.out⟩
theorem refGoodR_full:∀ m,RefGoodAt m
 | 0=>fun r x B d w hm _ hx hB hg=>by rw [wt_eq] at hm; omega
 | m+1=>refGoodR_step m (refGoodR_full m)
end Go.Proofs.YtgakcdcfblgagaaGreatDoor.Range
namespace Go.Proofs.YtgakcdcfblgagaaGreatDoor.Copy
open Go.RowKit Num Ident Semver Fr
open Range (Rng noRng RV Lies RgRow CellsAt KeepS LtB InS FitV wt wtL)
open KR (KRow)

def OwnPost (w:World) (E:TypeId) (k n:Nat) (xs:List Value) (e:Ending) (w':World):Prop:=∃ v,e=.returned v∧w'.ownsRow w.heap.size E k v n xs∧Below w.heap.size w w'
theorem srow_nil {w:World} {n:Nat} {l:List (List UInt8)} (h:SRow w none n l):n=0∧l=[]:=by
 rcases Nat.eq_zero_or_pos n with h0 | h0
 ·exact ⟨h0,List.eq_nil_of_length_eq_zero (by rw [h.1]; exact h0)⟩
 ·obtain ⟨b,o,e,_⟩:=h.2 h0
  cases e
theorem run_append_str (w:World) (ty:TypeId) (base:Nat) (v:Value) (n:Nat) (xs:List (List UInt8)) (hown:w.ownsRow base 9 1 v n (strs xs))
  (ad:Addr) (m c:Nat) (ys:List (List UInt8)) (hr:SRow w (some ad) m ys) (hm:n+m≤maxLen) (hb:(n+m) * 16≤140737488355328) (hbase:base≤w.heap.size) :
  ∃ v' w',(Builtin.append_ #[35,35] ty #[v,.slice (some ad) m c]).run Tryz.prog w=.ok v' w'∧w'.ownsRow base 9 1 v' (n+m) (strs (xs ++ ys))∧w.grownBy w' v.ownBlock:=by
 obtain ⟨i,hi,hz,hs,hby⟩:=info_parts strInfo
 obtain ⟨v',w',h1,h2,h3,_⟩:=run_append_own (P:=Tryz.prog) w base 35 ty 9 i (.string ⟨#[]⟩) 1 16 Tryz.underlying35 hi hz hs hby rfl (by omega) v n _ hown ad m c (strs ys)
  (by rw [strs_length,hr.1,Nat.mul_one]) hr.news (strs_one ys) hm hb hbase
 exact ⟨v',w',h1,by rw [strs_append]; exact h2,h3⟩
theorem wpList_ran {P:Program} {w:World} {ops:Array Oper} {rest:List Oper} {o:Oper} {a:Act} {Q:Exit→Act→World→Prop} {T:TypeId} {s x:Operand} {sv xv v':Value} {w':World} (hg:o.guard=none)
  (ho:o.op=.call { callee:=.builtin .append,args:=#[s,x],argTypes:=#[T,T] }) (hs:a.eval s=sv) (hx:a.eval x=xv) (hrun:(Builtin.append_ #[T,T] o.type #[sv,xv]).run P w=.ok v' w')
  (h:wpList P ops Q rest (a.put o.dst v') w'):wpList P ops Q (o :: rest) a w:=by
 refine wpList_plain hg fun K hK=>?_
 unfold Oper.wp execOp
 simp only [ho,resolve,invoke,builtin,Sem.run_bind,Sem.run_pure,Result.andThen_ok,List.map_toArray,List.map_cons,List.map_nil,hs,hx,hrun]
 exact hK _ _ h
theorem infoRange:(Tryz.prog.info? 65).map (fun i=>(i.zero,i.size,i.bytes))=some (some (.agg #[.int .i64 0,.int .u64 0,.int .u64 0,.int .u64 0,.slice none 0 0,.slice none 0 0,.slice none 0 0]),7,104):=by kernel_rfl
theorem oneRange:∀ x:RV,∀ u ∈ x.vals,u.oneCell'=true:=Range.rv_one
theorem cloneStr_any (A:Option Addr) (n c:Nat) (l:List (List UInt8)) (w:World) (h:SRow w A n l) (hb:n * 16≤140737488355328) (hn:n≤maxLen) :
  Calls Tryz.prog 156 #[.slice A n c] w (OwnPost w 9 1 n (strs l)):=by
 have qN:∀ (w:World) (a:Option Addr) (n c n' c':Nat),(binOp .eql 35 (.slice a n c) (.slice none n' c')).run Tryz.prog w=.ok (.bool a.isNone) w:=fun w a n c n' c'=>Lib.run_eql_slice_nil w _ _ a n c n' c' Tryz.underlying35
 cases A with
 | none =>
  obtain ⟨rfl,rfl⟩:=srow_nil h
  go_enter Tryz.func156,Tryz.ntmps156
  go_wp2
  go_ret
  exact ⟨_,rfl,World.ownsRow_nil _ _ _ _,Below.refl _ _⟩
 | some ad =>
  have H0:Hid ((w.alloc (.cells #[] 9)).ownsRow w.heap.size 9 1 (.slice (some ⟨w.heap.size,0,none⟩) 0 0) 0 []):=World.ownsRow_made w #[] 0 (Nat.le_refl _) (Nat.zero_le _) rfl
  have HB:Hid (Below w.heap.size w (w.alloc (.cells #[] 9))):=(Below.refl _ _).alloc (Nat.le_refl _) _
  have HR:Hid (SRow (w.alloc (.cells #[] 9)) (some ad) n l):=h.kept HB.out
  have hbz:w.heap.size≤(w.alloc (.cells #[] 9)).heap.size:=HB.out.size
  obtain ⟨v',w',hrun,hown,hgr⟩:=run_append_str _ 35 w.heap.size _ 0 [] H0.out ad n c l HR.out (by omega) (by omega) hbz
  have HO:=Lib.hid hown
  have HG:=Lib.hid hgr
  clear hown hgr h
  go_enter Tryz.func156,Tryz.ntmps156
  go_wp2_with (first
   | (at_builtin; refine wpList_ran rfl rfl rfl rfl hrun ?_)
   | go_in)
  clear hrun hbz
  go_wp2
  go_ret
  exact ⟨_,rfl,by simpa using HO.out,HB.out.trans (by
   have:=HG.out
   exact (Below.refl _ _).grown this HB.out.size (fun g e=>by injection e with e; rw [← e]; exact Nat.le_refl _))⟩
theorem cloneRange_any (A:Option Addr) (n c:Nat) (l:List RV) (S:Nat→Prop) (w:World) (h:KRow RV.vals 7 w S A n l) (hb:n * 104≤140737488355328) (hn:n≤maxLen) :
  Calls Tryz.prog 158 #[.slice A n c] w (OwnPost w 65 7 n (l.flatMap RV.vals)):=by
 have qN:∀ (w:World) (a:Option Addr) (n c n' c':Nat),(binOp .eql 63 (.slice a n c) (.slice none n' c')).run Tryz.prog w=.ok (.bool a.isNone) w:=fun w a n c n' c'=>Lib.run_eql_slice_nil w _ _ a n c n' c' Tryz.underlying63
 cases A with
 | none =>
  obtain ⟨rfl,rfl⟩:=h.nil
  go_enter Tryz.func158,Tryz.ntmps158
  go_wp2
  go_ret
  exact ⟨_,rfl,World.ownsRow_nil _ _ _ _,Below.refl _ _⟩
 | some ad =>
  have H0:Hid ((w.alloc (.cells #[] 65)).ownsRow w.heap.size 65 7 (.slice (some ⟨w.heap.size,0,none⟩) 0 0) 0 []):=World.ownsRow_made w #[] 0 (Nat.le_refl _) (Nat.zero_le _) rfl
  have HB:Hid (Below w.heap.size w (w.alloc (.cells #[] 65))):=(Below.refl _ _).alloc (Nat.le_refl _) _
  have HR:Hid (KRow RV.vals 7 (w.alloc (.cells #[] 65)) S (some ad) n l):=h.keep (KeepS.of_below HB.out)
  have hbz:w.heap.size≤(w.alloc (.cells #[] 65)).heap.size:=HB.out.size
  obtain ⟨v',w',hrun,hown,hgr⟩:=KR.run_append_k (vals:=RV.vals) (k:=7) (bytes:=104) (T:=63) (E:=65) Tryz.underlying63 infoRange rfl (fun _=>rfl) (by omega) oneRange _ 63 w.heap.size _ 0 [] H0.out (some ad) n c l HR.out (fun e=>by cases e) (by omega) (by omega) hbz
  have HO:=Lib.hid hown
  have HG:=Lib.hid hgr
  clear hown hgr h
  go_enter Tryz.func158,Tryz.ntmps158
  go_wp2_with (first
   | (at_builtin; refine wpList_ran rfl rfl rfl rfl hrun ?_)
   | go_in)
  clear hrun hbz
  go_wp2
  go_ret
  exact ⟨_,rfl,by simpa using HO.out,HB.out.trans (by
   have:=HG.out
   exact (Below.refl _ _).grown this HB.out.size (fun g e=>by injection e with e; rw [← e]; exact Nat.le_refl _))⟩
end Go.Proofs.YtgakcdcfblgagaaGreatDoor.Copy
namespace Go.Proofs.YtgakcdcfblgagaaGreatDoor.Span
open Go.RowKit Num Ident Semver Prec

def Rights (l:List Sp):Prop:=∀ s ∈ l,right s.lo=true∧right s.hi=true
theorem Norm.rights {l:List Sp} (h:Norm l):Rights l:=fun s hs=>⟨((cnt_iff s).1 (h.cnt s hs)).1,((cnt_iff s).1 (h.cnt s hs)).2.1⟩
theorem right_behind {v:Ver} (h:right (aheadOf v)=true):right (behindOf v)=true:=by
 rw [right_ver (.inl rfl)] at h
 rw [right_ver (.inr rfl)]; exact h
theorem hasOne_iff {s:Sp} {v:Ver} (h:right s.lo=true∧right s.hi=true) (hv:right (aheadOf v)=true):hasOne (aheadOf v) (behindOf v) s=true↔inOne s (aheadOf v):=by
 unfold hasOne inOne
 rw [Bool.and_eq_true,decide_eq_true_eq,decide_eq_true_eq,cmpC_right h.1 hv,cmpC_right h.2 (right_behind hv),behind_le]
 have:=stand_flip s.hi (behindOf v)
 constructor
 ·rintro ⟨a,b⟩; exact ⟨a,by omega⟩
 ·rintro ⟨a,b⟩; exact ⟨a,by omega⟩
theorem has_iff {l:List Sp} {v:Ver} (h:Rights l) (hv:right (aheadOf v)=true):l.any (hasOne (aheadOf v) (behindOf v))=true↔inS l (aheadOf v):=by
 rw [List.any_eq_true]
 exact ⟨fun ⟨s,hs,hi⟩=>⟨s,hs,(hasOne_iff (h s hs) hv).1 hi⟩,fun ⟨s,hs,hi⟩=>⟨s,hs,(hasOne_iff (h s hs) hv).2 hi⟩⟩
theorem inR_nil (c:Cut):¬ inR [] c:=fun ⟨s,hs,_⟩=>by cases hs
theorem low_ahead (v:Ver):stand low (aheadOf v)<0:=by
 rw [stand_kind (by rintro ⟨h,_⟩; exact absurd h (by decide))]; exact (show ordI 0 1<0 by decide)
theorem behind_high (v:Ver):stand (behindOf v) high<0:=by
 rw [stand_kind (by rintro ⟨_,h⟩; exact absurd h (by decide))]; exact (show ordI 2 3<0 by decide)
end Go.Proofs.YtgakcdcfblgagaaGreatDoor.Span
