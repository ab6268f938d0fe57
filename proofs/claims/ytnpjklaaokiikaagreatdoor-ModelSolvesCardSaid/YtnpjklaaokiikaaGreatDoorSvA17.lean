/-
  What the theorem of the last text needs of these: RgRefGood, SpHoldsPlain, MoTodo. Conditions: as each theorem states.
-/
import Derived.Test.YtnpjklaaokiikaaGreatDoorSvA1
import Derived.Test.YtnpjklaaokiikaaGreatDoorSvA8
import Derived.Test.YtnpjklaaokiikaaGreatDoorSvA12
import Derived.Test.YtnpjklaaokiikaaGreatDoorSvA15
import Derived.Test.YtnpjklaaokiikaaGreatDoorSvA16
import Derived.Deep.QuietTactic
import Derived.BigQuiet
import Derived.WalkSmall
set_option maxRecDepth 100000
set_option maxHeartbeats 25600000
namespace Go.Proofs.YtnpjklaaokiikaaGreatDoor.Range
open Go.RowKit Num Ident Semver
theorem brackets_any (o k:Int) (w:World):Calls Tryz.prog 191 #[.int .i64 o,.int .i64 k] w fun e w'=>e=.returned (.bool (bracketed o k))∧w'=w:=by
 unfold bracketed
 go_enter Tryz.func191,Tryz.ntmps191
 by_cases h1:k=10
 ·go_wp2; go_ret
  exact ⟨by simp [h1],rfl⟩
 ·by_cases h2:k=9
  ·by_cases h3:o=10
   ·go_wp2; go_ret
    exact ⟨by simp [h2,h3],rfl⟩
   ·go_wp2; go_ret
    exact ⟨by simp [h2,h3],rfl⟩
  ·go_wp2; go_ret
   exact ⟨by simp [h1,h2],rfl⟩
theorem fits_out {k:Int} {v:Ver} {n:Nat} (h:k<0∨11<k):fits k v n=false:=by
 have ho:ofVersion k=false:=decide_eq_false (by omega)
 cases hs:sameV v noVer with
 | false=>exact fits_un ho hs
 | true =>
  rw [fits_zero ho hs,if_neg (by omega),if_neg (by omega),if_neg (by omega)]
def RefGoodAt (m:Nat):Prop:=∀ (r:Rng) (x:RV) (B d:Nat) (w:World),wt r≤m→LenOk r→Lies w (LtB B) r x→B≤w.heap.size→d≤70 →
  Calls Tryz.prog 135 #[x.agg,.int .i64 d] w fun e w'=>e=.returned (.bool (goodR r d))∧Below w.heap.size w w'
theorem refGoodR_step (m:Nat) (ih:RefGoodAt m):RefGoodAt (m+1):=by
  intro r x B d w hm hM hx hB hdd
  have IH:=Lib.hid ih
  clear ih
  have hs:=hx.says
  obtain ⟨f,hln,_,_⟩:=hs.subs
  have hfit:=hs.fit
  have HP:=Lib.hid hs.pre
  have HU:=Lib.hid hs.build
  have HB:Hid (Below w.heap.size w (w.alloc x)):=(Below.refl _ _).alloc (Nat.le_refl _) _
  have HRA:Hid (RAt (w.alloc x) w.heap.size x):=RAt.new w _ x
  have HL:=Lib.hid (hx.keep (KeepS.of_below (S:=LtB B) HB.out))
  have HG:Hid (goodR r d=(decide (d≤64) && fits x.kind x.v x.n && goodL x.kind r.subs d)):=by
   have e1:=hs.kind
   have e2:=hs.ver
   rw [← e1,← e2,← hln]
   obtain ⟨k,v,l⟩:=r
   exact goodR_eq k v l d
  rw [wt_eq] at hm
  have hxn:x.n≤9223372036854775807:=by rw [← hln]; exact hM.here
  have HLO:=Lib.hid hM
  have HLN:=Lib.hid hln
  clear hs hx hln hM
  unfold RV.agg
  generalize hR:goodR r d=R
  replace HG:Hid (R=(decide (d≤64) && fits x.kind x.v x.n && goodL x.kind r.subs d)):=hR.symm.trans HG.out
  clear hR
  go_enter Tryz.func135,Tryz.ntmps135
  go_upto_region 1 with (fail)
  generalize w.alloc x=W at HB HRA HL ⊢
  obtain ⟨y1,y2,c0,c1,c2,c3,c4,c5,c6⟩:=HRA.out
  by_cases hd:¬ d≤64
  ·have hd64:(64:Int)<(d:Int):=by omega
   obtain rfl:R=false:=by rw [HG.out,decide_eq_false hd,Bool.false_and,Bool.false_and]
   clear hd HG
   go_wp2; go_ret
   exact ⟨rfl,HB.out⟩
  replace hd:=Classical.not_not.1 hd
  have hd64:¬ (64:Int)<(d:Int):=by omega
  replace HG:Hid (R=(fits x.kind x.v x.n && goodL x.kind r.subs d)):=by unfold Hid; rw [HG.out,decide_eq_true hd,Bool.true_and]
  by_cases hk0:x.kind<0
  ·obtain rfl:R=false:=by rw [HG.out,fits_out (.inl hk0),Bool.false_and]
   clear HG
   go_wp2; go_ret
   exact ⟨rfl,HB.out⟩
  by_cases hk11:11<x.kind
  ·obtain rfl:R=false:=by rw [HG.out,fits_out (.inr hk11),Bool.false_and]
   clear HG
   go_wp2; go_ret
   exact ⟨rfl,HB.out⟩
  go_wp2_with fail
  refine (Semver.refSame_any x.v noVer x.A x.B none none x.c x.d 0 0 W (HP.out.kept HB.out) (HU.out.kept HB.out) (srow_none _ _) (srow_none _ _) hfit.pre hfit.build (Nat.zero_le _) (Nat.zero_le _)).mono ?_
  rintro e W2 ⟨rfl,hb⟩
  have HB2:=Lib.hid (HB.out.trans (hb.mono HB.out.size))
  have HRA2:=Lib.hid (HRA.out.kept hb HRA.out.1)
  have HL2:=Lib.hid (HL.out.keep (KeepS.of_below (S:=LtB B) hb))
  have hB2:B≤W2.heap.size:=Nat.le_trans hB HB2.out.size
  clear hb y1 y2 c0 c1 c2 c3 c4 c5 c6 HB HRA HL
  obtain ⟨y1,y2,c0,c1,c2,c3,c4,c5,c6⟩:=HRA2.out
  by_cases hv:1≤x.kind∧x.kind≤8
  ·obtain ⟨hv1,hv8⟩:=hv
   have HFV:Hid (fits x.kind x.v x.n=(goodV x.v && decide (x.n=0))):=fits_ver (decide_eq_true ⟨hv1,hv8⟩)
   go_wp2_with fail
   refine (Semver.refGood_all x.v x.A x.c x.B x.d W2 (HP.out.kept HB2.out) (HU.out.kept HB2.out) hfit.pre hfit.build hfit.pres hfit.builds).mono ?_
   rintro e W3 ⟨rfl,hb⟩
   have HB3:=Lib.hid (HB2.out.trans (hb.mono HB2.out.size))
   have HRA3:=Lib.hid (HRA2.out.kept hb HRA2.out.1)
   clear hb y1 y2 c0 c1 c2 c3 c4 c5 c6
   obtain ⟨y1,y2,c0,c1,c2,c3,c4,c5,c6⟩:=HRA3.out
   cases hgv:goodV x.v
   ·obtain rfl:R=false:=by rw [HG.out,HFV.out,hgv]; rfl
    clear HG HFV hgv
    go_wp2; go_ret
    exact ⟨rfl,HB3.out⟩
   ·by_cases hn:x.n=0
    ·obtain rfl:R=true:=by
      have h0:r.subs=[]:=List.eq_nil_of_length_eq_zero (HLN.out.trans hn)
      rw [HG.out,HFV.out,hgv,decide_eq_true hn,h0]; rfl
     have q0:((x.n:Int) == 0)=true:=beq_iff_eq.2 (by omega)
     clear HG HFV hgv hn
     go_wp2; go_ret
     exact ⟨rfl,HB3.out⟩
    ·have q0:((x.n:Int) == 0)=false:=beq_eq_false_iff_ne.2 (by omega)
     obtain rfl:R=false:=by rw [HG.out,HFV.out,hgv,decide_eq_false hn]; rfl
     clear HG HFV hgv hn
     go_wp2; go_ret
     exact ⟨rfl,HB3.out⟩
  have HOV:Hid (ofVersion x.kind=false):=decide_eq_false hv
  have hkk:x.kind=0∨x.kind=9∨x.kind=10∨x.kind=11:=by omega
  have hqv:¬ (1≤x.kind∧x.kind≤8):=hv
  cases hsv:sameV x.v noVer with
  | false =>
   obtain rfl:R=false:=by rw [HG.out,fits_un HOV.out hsv,Bool.false_and]
   clear HG
   by_cases h1:1≤x.kind
   ·have h8:¬ x.kind≤8:=by omega
    go_wp2; go_ret
    exact ⟨rfl,HB2.out⟩
   ·go_wp2; go_ret
    exact ⟨rfl,HB2.out⟩
  | true =>
   have HSV:=Lib.hid hsv
   clear hsv hv hqv
   rcases hkk with hK | hK | hK | hK
   ·have l1:¬ 1≤x.kind:=by omega
    have HK:=Lib.hid hK
    clear hK
    have q0:(x.kind == 0)=true:=by rw [HK.out]; rfl
    have q9:(x.kind == 9)=false:=by rw [HK.out]; rfl
    have q10:(x.kind == 10)=false:=by rw [HK.out]; rfl
    have q11:(x.kind == 11)=false:=by rw [HK.out]; rfl
    have HFZ:Hid (fits x.kind x.v x.n=decide (x.n=0)):=by unfold Hid; rw [fits_zero HOV.out HSV.out,HK.out]; rfl
    by_cases hn:x.n=0
    ·replace HG:Hid (R=goodL x.kind r.subs d):=by unfold Hid; rw [HG.out,HFZ.out,decide_eq_true hn,Bool.true_and]
     have n1:¬ (0:Int)<(x.n:Int):=by omega
     go_wp2
     go_loopw [6] (fun iv W'=>∃ k:Nat,k≤x.n∧iv=.int .i64 k∧Hid (Below W2.heap.size W2 W')∧Hid (∀ j,j<k→goodR (r.subs.getD j noRng) (d+opens x.kind (r.subs.getD j noRng).kind)=true)) (fun iv _=>x.n - (intOf iv).toNat)
     case atStart=>exact ⟨0,Nat.zero_le _,rfl,Below.refl _ _,fun j hj=>absurd hj (Nat.not_lt_zero j)⟩
     case round =>
      obtain ⟨k,hk,rfl,HB3,HQ⟩:=hrel
      by_cases hlt:k<x.n
      ·exfalso; omega
      ·obtain rfl:k=x.n:=by omega
       have HA:=Lib.hid (goodL_at.2 fun j hj=>HQ.out j (by rw [← HLN.out]; exact hj))
       obtain rfl:R=true:=HG.out.trans HA.out
       have HR3:=Lib.hid (HRA2.out.kept HB3.out HRA2.out.1)
       obtain ⟨y1,y2,c0,c1,c2,c3,c4,c5,c6⟩:=HR3.out
       clear HG
       go_wp2
       go_ret
       exact ⟨rfl,HB2.out.trans (HB3.out.mono HB2.out.size)⟩
    ·have n1:(0:Int)<(x.n:Int):=by omega
     have HN:=Lib.hid hn
     clear hn
     obtain rfl:R=false:=by rw [HG.out,HFZ.out,decide_eq_false HN.out,Bool.false_and]
     clear HG HFZ
     go_wp2; go_ret
     exact ⟨rfl,HB2.out⟩
   ·have l1:1≤x.kind:=by omega
    have l8:¬ x.kind≤8:=by omega
    have HK:=Lib.hid hK
    clear hK
    have q0:(x.kind == 0)=false:=by rw [HK.out]; rfl
    have q9:(x.kind == 9)=true:=by rw [HK.out]; rfl
    have q10:(x.kind == 10)=false:=by rw [HK.out]; rfl
    have q11:(x.kind == 11)=false:=by rw [HK.out]; rfl
    have HFZ:Hid (fits x.kind x.v x.n=decide (2≤x.n)):=by unfold Hid; rw [fits_zero HOV.out HSV.out,HK.out]; rfl
    by_cases hn:2≤x.n
    ·replace HG:Hid (R=goodL x.kind r.subs d):=by unfold Hid; rw [HG.out,HFZ.out,decide_eq_true hn,Bool.true_and]
     have n1:¬ (x.n:Int)<2:=by omega
     go_wp2
     go_loopw [6] (fun iv W'=>∃ k:Nat,k≤x.n∧iv=.int .i64 k∧Hid (Below W2.heap.size W2 W')∧Hid (∀ j,j<k→goodR (r.subs.getD j noRng) (d+opens x.kind (r.subs.getD j noRng).kind)=true)) (fun iv _=>x.n - (intOf iv).toNat)
     case atStart=>exact ⟨0,Nat.zero_le _,rfl,Below.refl _ _,fun j hj=>absurd hj (Nat.not_lt_zero j)⟩
     case round =>
      obtain ⟨k,hk,rfl,HB3,HQ⟩:=hrel
      by_cases hlt:k<x.n
      ·obtain ⟨b,o,c,hLe,hSb,hcl,hcy⟩:=HL2.out.says.subs.one hlt
       have hll:k<r.subs.length:=by rw [HLN.out]; exact hlt
       have hmem:r.subs.getD k noRng ∈ r.subs:=by
        rw [List.getD_eq_getElem?_getD,List.getElem?_eq_getElem (by omega)]; exact List.getElem_mem _
       have hwt:wt (r.subs.getD k noRng)≤m:=by have:=wt_mem hmem; omega
       have hlo:=HLO.out.sub hmem
       obtain ⟨q,hqq⟩:∃ q,q=r.subs.getD k noRng:=⟨_,rfl⟩
       have HQE:Hid (goodR q (d+opens x.kind c.kind)=goodR (r.subs.getD k noRng) (d+opens x.kind (r.subs.getD k noRng).kind)):=by unfold Hid; rw [← hcy.says.kind,← hqq]
       rw [← hqq] at hcy hwt hlo
       clear hqq hmem
       have HCk:Hid (CellsAt wr b (o+k * 7) c):=hcl.keep (KeepS.of_below (S:=LtB B) HB3.out) hSb
       have HLc:Hid (Lies wr (LtB B) q c):=hcy.keep (KeepS.of_below (S:=LtB B) HB3.out)
       have HR3:=Lib.hid (HRA2.out.kept HB3.out HRA2.out.1)
       clear hcl hcy
       rw [hLe]
       obtain ⟨y1,y2,c0,c1,c2,c3,c4,c5,c6⟩:=HR3.out
       rw [hLe] at c6
       go_upto_region 14 with (fail)
       clear y1 y2 c0 c1 c2 c3 c4 c5 c6
       replace HB3:Hid (Below W2.heap.size W2 wr.drew):=HB3.out.drew
       replace HR3:Hid (RAt wr.drew w.heap.size x):=HR3.out
       replace HCk:Hid (CellsAt wr.drew b (o+k * 7) c):=HCk.out
       replace HLc:Hid (Lies wr.drew (LtB B) q c):=HLc.out.keep (KeepS.of_below (S:=LtB B) (Below.refl _ _).drew)
       have hBV:B≤wr.drew.heap.size:=Nat.le_trans hB2 HB3.out.size
       cases hbk:bracketed x.kind c.kind with
       | true =>
        have hop:opens x.kind c.kind=1:=by unfold opens; rw [hbk,HK.out]; rfl
        rw [hop] at HQE
        have HBK:=Lib.hid hbk
        clear hbk hop
        refine wp_region_held_drew (S:=fun w'=>RAt w' w.heap.size x∧Range.CellsAt w' b (o+k * 7) c) (by kernel_rfl) ⟨HR3.out,HCk.out⟩ (fun hHeld=>?_)
        generalize wr.drew=V at HB3 HR3 HCk HLc hBV hHeld ⊢
        refine tk 0 rfl (.pointer (some ⟨w.heap.size,0,none⟩)) ?_
        refine tk 1 rfl x.kind ?_ fun w' hS'=>by obtain ⟨y1,y2,c0,c1,c2,c3,c4,c5,c6⟩:=hS'.1; go_simp
        refine tk 2 rfl (.pointer (some ⟨w.heap.size,6,none⟩)) ?_
        refine tk 3 rfl (.slice (some ⟨b,o,none⟩) x.n x.e) ?_ fun w' hS'=>by obtain ⟨y1,y2,c0,c1,c2,c3,c4,c5,c6⟩:=hS'.1; rw [hLe] at c6; go_simp
        refine tk 4 rfl (.int .i64 k) ?_
        refine tk 5 rfl (.pointer (some ⟨b,o+k * 7,none⟩)) ?_
        refine tk 6 rfl (.pointer (some ⟨b,o+k * 7,none⟩)) ?_
        refine tk 7 rfl c.kind ?_ fun w' hS'=>by have:=hS'.2.cells.1; go_simp
        refine cl 8 rfl fun K hK=>?_
        go_simp
        refine (brackets_any x.kind c.kind _).mono ?_
        rintro e wm1 ⟨rfl,rfl⟩
        have hb:=True.intro
        rw [HBK.out]
        clear hb hHeld
        refine hK.out _ _ ⟨HR3.out,HCk.out⟩ (fun hHeld=>?_)
        clear hK K
        try simp only [Act.put,p1,p2,p3]
        refine wpAnyH_done (by kernel_rfl) ?_ _
        obtain ⟨y1,y2,c0,c1,c2,c3,c4,c5,c6⟩:=HR3.out
        obtain ⟨e0,e1,e2,e3,e4,e5,e6⟩:=HCk.out.cells
        rw [hLe] at c6
        go_wp2_with fail
        refine (IH.out q c B (d+1) wm1 hwt hlo HLc.out hBV (by omega)).mono ?_
        rintro e V2 ⟨rfl,hb⟩
        have HB5:=Lib.hid (HB3.out.trans (hb.mono HB3.out.size))
        clear hb y1 y2 c0 c1 c2 c3 c4 c5 c6 e0 e1 e2 e3 e4 e5 e6 HR3 HCk HLc
        cases hqb:goodR q (d+1)
        ·obtain rfl:R=false:=HG.out.trans (goodL_no hll (HQE.out.symm.trans hqb))
         clear HQ HG
         go_wp2
         go_ret
         exact ⟨rfl,HB2.out.trans (HB5.out.mono HB2.out.size)⟩
        ·go_wp2
         exact ⟨⟨k+1,by omega,by go_num,HB5.out,fun j hj=>by
          by_cases hjk:j=k
          ·subst hjk; exact HQE.out.symm.trans hqb
          ·exact HQ.out j (by omega)⟩,by simp [intOf]; omega⟩
       | false =>
        have hop:opens x.kind c.kind=0:=by unfold opens; rw [hbk,HK.out]; rfl
        rw [hop] at HQE
        have HBK:=Lib.hid hbk
        clear hbk hop
        refine wp_region_held_drew (S:=fun w'=>RAt w' w.heap.size x∧Range.CellsAt w' b (o+k * 7) c) (by kernel_rfl) ⟨HR3.out,HCk.out⟩ (fun hHeld=>?_)
        generalize wr.drew=V at HB3 HR3 HCk HLc hBV hHeld ⊢
        refine tk 0 rfl (.pointer (some ⟨w.heap.size,0,none⟩)) ?_
        refine tk 1 rfl x.kind ?_ fun w' hS'=>by obtain ⟨y1,y2,c0,c1,c2,c3,c4,c5,c6⟩:=hS'.1; go_simp
        refine tk 2 rfl (.pointer (some ⟨w.heap.size,6,none⟩)) ?_
        refine tk 3 rfl (.slice (some ⟨b,o,none⟩) x.n x.e) ?_ fun w' hS'=>by obtain ⟨y1,y2,c0,c1,c2,c3,c4,c5,c6⟩:=hS'.1; rw [hLe] at c6; go_simp
        refine tk 4 rfl (.int .i64 k) ?_
        refine tk 5 rfl (.pointer (some ⟨b,o+k * 7,none⟩)) ?_
        refine tk 6 rfl (.pointer (some ⟨b,o+k * 7,none⟩)) ?_
        refine tk 7 rfl c.kind ?_ fun w' hS'=>by have:=hS'.2.cells.1; go_simp
        refine cl 8 rfl fun K hK=>?_
        go_simp
        refine (brackets_any x.kind c.kind _).mono ?_
        rintro e wm1 ⟨rfl,rfl⟩
        have hb:=True.intro
        rw [HBK.out]
        clear hb hHeld
        refine hK.out _ _ ⟨HR3.out,HCk.out⟩ (fun hHeld=>?_)
        clear hK K
        try simp only [Act.put,p1,p2,p3]
        refine wpAnyH_done (by kernel_rfl) ?_ _
        obtain ⟨y1,y2,c0,c1,c2,c3,c4,c5,c6⟩:=HR3.out
        obtain ⟨e0,e1,e2,e3,e4,e5,e6⟩:=HCk.out.cells
        rw [hLe] at c6
        go_wp2_with fail
        refine (IH.out q c B (d+0) wm1 hwt hlo HLc.out hBV (by omega)).mono ?_
        rintro e V2 ⟨rfl,hb⟩
        have HB5:=Lib.hid (HB3.out.trans (hb.mono HB3.out.size))
        clear hb y1 y2 c0 c1 c2 c3 c4 c5 c6 e0 e1 e2 e3 e4 e5 e6 HR3 HCk HLc
        cases hqb:goodR q (d+0)
        ·obtain rfl:R=false:=HG.out.trans (goodL_no hll (HQE.out.symm.trans hqb))
         clear HQ HG
         go_wp2
         go_ret
         exact ⟨rfl,HB2.out.trans (HB5.out.mono HB2.out.size)⟩
        ·go_wp2
         exact ⟨⟨k+1,by omega,by go_num,HB5.out,fun j hj=>by
          by_cases hjk:j=k
          ·subst hjk; exact HQE.out.symm.trans hqb
          ·exact HQ.out j (by omega)⟩,by simp [intOf]; omega⟩
      ·obtain rfl:k=x.n:=by omega
       have HA:=Lib.hid (goodL_at.2 fun j hj=>HQ.out j (by rw [← HLN.out]; exact hj))
       obtain rfl:R=true:=HG.out.trans HA.out
       have HR3:=Lib.hid (HRA2.out.kept HB3.out HRA2.out.1)
       obtain ⟨y1,y2,c0,c1,c2,c3,c4,c5,c6⟩:=HR3.out
       clear HG
       go_wp2
       go_ret
       exact ⟨rfl,HB2.out.trans (HB3.out.mono HB2.out.size)⟩
    ·have n1:(x.n:Int)<2:=by omega
     have HN:=Lib.hid hn
     clear hn
     obtain rfl:R=false:=by rw [HG.out,HFZ.out,decide_eq_false HN.out,Bool.false_and]
     clear HG HFZ
     go_wp2; go_ret
     exact ⟨rfl,HB2.out⟩
   ·have l1:1≤x.kind:=by omega
    have l8:¬ x.kind≤8:=by omega
    have HK:=Lib.hid hK
    clear hK
    have q0:(x.kind == 0)=false:=by rw [HK.out]; rfl
    have q9:(x.kind == 9)=false:=by rw [HK.out]; rfl
    have q10:(x.kind == 10)=true:=by rw [HK.out]; rfl
    have q11:(x.kind == 11)=false:=by rw [HK.out]; rfl
    have HFZ:Hid (fits x.kind x.v x.n=decide (2≤x.n)):=by unfold Hid; rw [fits_zero HOV.out HSV.out,HK.out]; rfl
    by_cases hn:2≤x.n
    ·replace HG:Hid (R=goodL x.kind r.subs d):=by unfold Hid; rw [HG.out,HFZ.out,decide_eq_true hn,Bool.true_and]
     have n1:¬ (x.n:Int)<2:=by omega
     go_wp2
     go_loopw [6] (fun iv W'=>∃ k:Nat,k≤x.n∧iv=.int .i64 k∧Hid (Below W2.heap.size W2 W')∧Hid (∀ j,j<k→goodR (r.subs.getD j noRng) (d+opens x.kind (r.subs.getD j noRng).kind)=true)) (fun iv _=>x.n - (intOf iv).toNat)
     case atStart=>exact ⟨0,Nat.zero_le _,rfl,Below.refl _ _,fun j hj=>absurd hj (Nat.not_lt_zero j)⟩
     case round =>
      obtain ⟨k,hk,rfl,HB3,HQ⟩:=hrel
      by_cases hlt:k<x.n
      ·obtain ⟨b,o,c,hLe,hSb,hcl,hcy⟩:=HL2.out.says.subs.one hlt
       have hll:k<r.subs.length:=by rw [HLN.out]; exact hlt
       have hmem:r.subs.getD k noRng ∈ r.subs:=by
        rw [List.getD_eq_getElem?_getD,List.getElem?_eq_getElem (by omega)]; exact List.getElem_mem _
       have hwt:wt (r.subs.getD k noRng)≤m:=by have:=wt_mem hmem; omega
       have hlo:=HLO.out.sub hmem
       obtain ⟨q,hqq⟩:∃ q,q=r.subs.getD k noRng:=⟨_,rfl⟩
       have HQE:Hid (goodR q (d+opens x.kind c.kind)=goodR (r.subs.getD k noRng) (d+opens x.kind (r.subs.getD k noRng).kind)):=by unfold Hid; rw [← hcy.says.kind,← hqq]
       rw [← hqq] at hcy hwt hlo
       clear hqq hmem
       have HCk:Hid (CellsAt wr b (o+k * 7) c):=hcl.keep (KeepS.of_below (S:=LtB B) HB3.out) hSb
       have HLc:Hid (Lies wr (LtB B) q c):=hcy.keep (KeepS.of_below (S:=LtB B) HB3.out)
       have HR3:=Lib.hid (HRA2.out.kept HB3.out HRA2.out.1)
       clear hcl hcy
       rw [hLe]
       obtain ⟨y1,y2,c0,c1,c2,c3,c4,c5,c6⟩:=HR3.out
       rw [hLe] at c6
       go_upto_region 14 with (fail)
       clear y1 y2 c0 c1 c2 c3 c4 c5 c6
       replace HB3:Hid (Below W2.heap.size W2 wr.drew):=HB3.out.drew
       replace HR3:Hid (RAt wr.drew w.heap.size x):=HR3.out
       replace HCk:Hid (CellsAt wr.drew b (o+k * 7) c):=HCk.out
       replace HLc:Hid (Lies wr.drew (LtB B) q c):=HLc.out.keep (KeepS.of_below (S:=LtB B) (Below.refl _ _).drew)
       have hBV:B≤wr.drew.heap.size:=Nat.le_trans hB2 HB3.out.size
       cases hbk:bracketed x.kind c.kind with
       | true =>
        have hop:opens x.kind c.kind=1:=by unfold opens; rw [hbk,HK.out]; rfl
        rw [hop] at HQE
        have HBK:=Lib.hid hbk
        clear hbk hop
        refine wp_region_held_drew (S:=fun w'=>RAt w' w.heap.size x∧Range.CellsAt w' b (o+k * 7) c) (by kernel_rfl) ⟨HR3.out,HCk.out⟩ (fun hHeld=>?_)
        generalize wr.drew=V at HB3 HR3 HCk HLc hBV hHeld ⊢
        refine tk 0 rfl (.pointer (some ⟨w.heap.size,0,none⟩)) ?_
        refine tk 1 rfl x.kind ?_ fun w' hS'=>by obtain ⟨y1,y2,c0,c1,c2,c3,c4,c5,c6⟩:=hS'.1; go_simp
        refine tk 2 rfl (.pointer (some ⟨w.heap.size,6,none⟩)) ?_
        refine tk 3 rfl (.slice (some ⟨b,o,none⟩) x.n x.e) ?_ fun w' hS'=>by obtain ⟨y1,y2,c0,c1,c2,c3,c4,c5,c6⟩:=hS'.1; rw [hLe] at c6; go_simp
        refine tk 4 rfl (.int .i64 k) ?_
        refine tk 5 rfl (.pointer (some ⟨b,o+k * 7,none⟩)) ?_
        refine tk 6 rfl (.pointer (some ⟨b,o+k * 7,none⟩)) ?_
        refine tk 7 rfl c.kind ?_ fun w' hS'=>by have:=hS'.2.cells.1; go_simp
        refine cl 8 rfl fun K hK=>?_
        go_simp
        refine (brackets_any x.kind c.kind _).mono ?_
        rintro e wm1 ⟨rfl,rfl⟩
        have hb:=True.intro
        rw [HBK.out]
        clear hb hHeld
        refine hK.out _ _ ⟨HR3.out,HCk.out⟩ (fun hHeld=>?_)
        clear hK K
        try simp only [Act.put,p1,p2,p3]
        refine wpAnyH_done (by kernel_rfl) ?_ _
        obtain ⟨y1,y2,c0,c1,c2,c3,c4,c5,c6⟩:=HR3.out
        obtain ⟨e0,e1,e2,e3,e4,e5,e6⟩:=HCk.out.cells
        rw [hLe] at c6
        go_wp2_with fail
        refine (IH.out q c B (d+1) wm1 hwt hlo HLc.out hBV (by omega)).mono ?_
        rintro e V2 ⟨rfl,hb⟩
        have HB5:=Lib.hid (HB3.out.trans (hb.mono HB3.out.size))
        clear hb y1 y2 c0 c1 c2 c3 c4 c5 c6 e0 e1 e2 e3 e4 e5 e6 HR3 HCk HLc
        cases hqb:goodR q (d+1)
        ·obtain rfl:R=false:=HG.out.trans (goodL_no hll (HQE.out.symm.trans hqb))
         clear HQ HG
         go_wp2
         go_ret
         exact ⟨rfl,HB2.out.trans (HB5.out.mono HB2.out.size)⟩
        ·go_wp2
         exact ⟨⟨k+1,by omega,by go_num,HB5.out,fun j hj=>by
          by_cases hjk:j=k
          ·subst hjk; exact HQE.out.symm.trans hqb
          ·exact HQ.out j (by omega)⟩,by simp [intOf]; omega⟩
       | false =>
        have hop:opens x.kind c.kind=0:=by unfold opens; rw [hbk,HK.out]; rfl
        rw [hop] at HQE
        have HBK:=Lib.hid hbk
        clear hbk hop
        refine wp_region_held_drew (S:=fun w'=>RAt w' w.heap.size x∧Range.CellsAt w' b (o+k * 7) c) (by kernel_rfl) ⟨HR3.out,HCk.out⟩ (fun hHeld=>?_)
        generalize wr.drew=V at HB3 HR3 HCk HLc hBV hHeld ⊢
        refine tk 0 rfl (.pointer (some ⟨w.heap.size,0,none⟩)) ?_
        refine tk 1 rfl x.kind ?_ fun w' hS'=>by obtain ⟨y1,y2,c0,c1,c2,c3,c4,c5,c6⟩:=hS'.1; go_simp
        refine tk 2 rfl (.pointer (some ⟨w.heap.size,6,none⟩)) ?_
        refine tk 3 rfl (.slice (some ⟨b,o,none⟩) x.n x.e) ?_ fun w' hS'=>by obtain ⟨y1,y2,c0,c1,c2,c3,c4,c5,c6⟩:=hS'.1; rw [hLe] at c6; go_simp
        refine tk 4 rfl (.int .i64 k) ?_
        refine tk 5 rfl (.pointer (some ⟨b,o+k * 7,none⟩)) ?_
        refine tk 6 rfl (.pointer (some ⟨b,o+k * 7,none⟩)) ?_
        refine tk 7 rfl c.kind ?_ fun w' hS'=>by have:=hS'.2.cells.1; go_simp
        refine cl 8 rfl fun K hK=>?_
        go_simp
        refine (brackets_any x.kind c.kind _).mono ?_
        rintro e wm1 ⟨rfl,rfl⟩
        have hb:=True.intro
        rw [HBK.out]
        clear hb hHeld
        refine hK.out _ _ ⟨HR3.out,HCk.out⟩ (fun hHeld=>?_)
        clear hK K
        try simp only [Act.put,p1,p2,p3]
        refine wpAnyH_done (by kernel_rfl) ?_ _
        obtain ⟨y1,y2,c0,c1,c2,c3,c4,c5,c6⟩:=HR3.out
        obtain ⟨e0,e1,e2,e3,e4,e5,e6⟩:=HCk.out.cells
        rw [hLe] at c6
        go_wp2_with fail
        refine (IH.out q c B (d+0) wm1 hwt hlo HLc.out hBV (by omega)).mono ?_
        rintro e V2 ⟨rfl,hb⟩
        have HB5:=Lib.hid (HB3.out.trans (hb.mono HB3.out.size))
        clear hb y1 y2 c0 c1 c2 c3 c4 c5 c6 e0 e1 e2 e3 e4 e5 e6 HR3 HCk HLc
        cases hqb:goodR q (d+0)
        ·obtain rfl:R=false:=HG.out.trans (goodL_no hll (HQE.out.symm.trans hqb))
         clear HQ HG
         go_wp2
         go_ret
         exact ⟨rfl,HB2.out.trans (HB5.out.mono HB2.out.size)⟩
        ·go_wp2
         exact ⟨⟨k+1,by omega,by go_num,HB5.out,fun j hj=>by
          by_cases hjk:j=k
          ·subst hjk; exact HQE.out.symm.trans hqb
          ·exact HQ.out j (by omega)⟩,by simp [intOf]; omega⟩
      ·obtain rfl:k=x.n:=by omega
       have HA:=Lib.hid (goodL_at.2 fun j hj=>HQ.out j (by rw [← HLN.out]; exact hj))
       obtain rfl:R=true:=HG.out.trans HA.out
       have HR3:=Lib.hid (HRA2.out.kept HB3.out HRA2.out.1)
       obtain ⟨y1,y2,c0,c1,c2,c3,c4,c5,c6⟩:=HR3.out
       clear HG
       go_wp2
       go_ret
       exact ⟨rfl,HB2.out.trans (HB3.out.mono HB2.out.size)⟩
    ·have n1:(x.n:Int)<2:=by omega
     have HN:=Lib.hid hn
     clear hn
     obtain rfl:R=false:=by rw [HG.out,HFZ.out,decide_eq_false HN.out,Bool.false_and]
     clear HG HFZ
     go_wp2; go_ret
     exact ⟨rfl,HB2.out⟩
   ·have l1:1≤x.kind:=by omega
    have l8:¬ x.kind≤8:=by omega
    have HK:=Lib.hid hK
    clear hK
    have q0:(x.kind == 0)=false:=by rw [HK.out]; rfl
    have q9:(x.kind == 9)=false:=by rw [HK.out]; rfl
    have q10:(x.kind == 10)=false:=by rw [HK.out]; rfl
    have q11:(x.kind == 11)=true:=by rw [HK.out]; rfl
    have HFZ:Hid (fits x.kind x.v x.n=decide (x.n=1)):=by unfold Hid; rw [fits_zero HOV.out HSV.out,HK.out]; rfl
    by_cases hn:x.n=1
    ·replace HG:Hid (R=goodL x.kind r.subs d):=by unfold Hid; rw [HG.out,HFZ.out,decide_eq_true hn,Bool.true_and]
     have n1:((x.n:Int) == 1)=true:=beq_iff_eq.2 (by omega)
     have n2:((x.n:Int) != 1)=false:=by rw [bne,n1]; rfl
     go_wp2
     go_loopw [6] (fun iv W'=>∃ k:Nat,k≤x.n∧iv=.int .i64 k∧Hid (Below W2.heap.size W2 W')∧Hid (∀ j,j<k→goodR (r.subs.getD j noRng) (d+opens x.kind (r.subs.getD j noRng).kind)=true)) (fun iv _=>x.n - (intOf iv).toNat)
     case atStart=>exact ⟨0,Nat.zero_le _,rfl,Below.refl _ _,fun j hj=>absurd hj (Nat.not_lt_zero j)⟩
     case round =>
      obtain ⟨k,hk,rfl,HB3,HQ⟩:=hrel
      by_cases hlt:k<x.n
      ·obtain ⟨b,o,c,hLe,hSb,hcl,hcy⟩:=HL2.out.says.subs.one hlt
       have hll:k<r.subs.length:=by rw [HLN.out]; exact hlt
       have hmem:r.subs.getD k noRng ∈ r.subs:=by
        rw [List.getD_eq_getElem?_getD,List.getElem?_eq_getElem (by omega)]; exact List.getElem_mem _
       have hwt:wt (r.subs.getD k noRng)≤m:=by have:=wt_mem hmem; omega
       have hlo:=HLO.out.sub hmem
       obtain ⟨q,hqq⟩:∃ q,q=r.subs.getD k noRng:=⟨_,rfl⟩
       have HQE:Hid (goodR q (d+opens x.kind c.kind)=goodR (r.subs.getD k noRng) (d+opens x.kind (r.subs.getD k noRng).kind)):=by unfold Hid; rw [← hcy.says.kind,← hqq]
       rw [← hqq] at hcy hwt hlo
       clear hqq hmem
       have HCk:Hid (CellsAt wr b (o+k * 7) c):=hcl.keep (KeepS.of_below (S:=LtB B) HB3.out) hSb
       have HLc:Hid (Lies wr (LtB B) q c):=hcy.keep (KeepS.of_below (S:=LtB B) HB3.out)
       have HR3:=Lib.hid (HRA2.out.kept HB3.out HRA2.out.1)
       clear hcl hcy
       rw [hLe]
       obtain ⟨y1,y2,c0,c1,c2,c3,c4,c5,c6⟩:=HR3.out
       rw [hLe] at c6
       go_upto_region 14 with (fail)
       clear y1 y2 c0 c1 c2 c3 c4 c5 c6
       replace HB3:Hid (Below W2.heap.size W2 wr.drew):=HB3.out.drew
       replace HR3:Hid (RAt wr.drew w.heap.size x):=HR3.out
       replace HCk:Hid (CellsAt wr.drew b (o+k * 7) c):=HCk.out
       replace HLc:Hid (Lies wr.drew (LtB B) q c):=HLc.out.keep (KeepS.of_below (S:=LtB B) (Below.refl _ _).drew)
       have hBV:B≤wr.drew.heap.size:=Nat.le_trans hB2 HB3.out.size
       cases hbk:bracketed x.kind c.kind with
       | true =>
        have hop:opens x.kind c.kind=2:=by unfold opens; rw [hbk,HK.out]; rfl
        rw [hop] at HQE
        have HBK:=Lib.hid hbk
        clear hbk hop
        refine wp_region_held_drew (S:=fun w'=>RAt w' w.heap.size x∧Range.CellsAt w' b (o+k * 7) c) (by kernel_rfl) ⟨HR3.out,HCk.out⟩ (fun hHeld=>?_)
        generalize wr.drew=V at HB3 HR3 HCk HLc hBV hHeld ⊢
        refine tk 0 rfl (.pointer (some ⟨w.heap.size,0,none⟩)) ?_
        refine tk 1 rfl x.kind ?_ fun w' hS'=>by obtain ⟨y1,y2,c0,c1,c2,c3,c4,c5,c6⟩:=hS'.1; go_simp
        refine tk 2 rfl (.pointer (some ⟨w.heap.size,6,none⟩)) ?_
        refine tk 3 rfl (.slice (some ⟨b,o,none⟩) x.n x.e) ?_ fun w' hS'=>by obtain ⟨y1,y2,c0,c1,c2,c3,c4,c5,c6⟩:=hS'.1; rw [hLe] at c6; go_simp
        refine tk 4 rfl (.int .i64 k) ?_
        refine tk 5 rfl (.pointer (some ⟨b,o+k * 7,none⟩)) ?_
        refine tk 6 rfl (.pointer (some ⟨b,o+k * 7,none⟩)) ?_
        refine tk 7 rfl c.kind ?_ fun w' hS'=>by have:=hS'.2.cells.1; go_simp
        refine cl 8 rfl fun K hK=>?_
        go_simp
        refine (brackets_any x.kind c.kind _).mono ?_
        rintro e wm1 ⟨rfl,rfl⟩
        have hb:=True.intro
        rw [HBK.out]
        clear hb hHeld
        refine hK.out _ _ ⟨HR3.out,HCk.out⟩ (fun hHeld=>?_)
        clear hK K
        try simp only [Act.put,p1,p2,p3]
        refine wpAnyH_done (by kernel_rfl) ?_ _
        obtain ⟨y1,y2,c0,c1,c2,c3,c4,c5,c6⟩:=HR3.out
        obtain ⟨e0,e1,e2,e3,e4,e5,e6⟩:=HCk.out.cells
        rw [hLe] at c6
        go_wp2_with fail
        refine (IH.out q c B (d+2) wm1 hwt hlo HLc.out hBV (by omega)).mono ?_
        rintro e V2 ⟨rfl,hb⟩
        have HB5:=Lib.hid (HB3.out.trans (hb.mono HB3.out.size))
        clear hb y1 y2 c0 c1 c2 c3 c4 c5 c6 e0 e1 e2 e3 e4 e5 e6 HR3 HCk HLc
        cases hqb:goodR q (d+2)
        ·obtain rfl:R=false:=HG.out.trans (goodL_no hll (HQE.out.symm.trans hqb))
         clear HQ HG
         go_wp2
         go_ret
         exact ⟨rfl,HB2.out.trans (HB5.out.mono HB2.out.size)⟩
        ·go_wp2
         exact ⟨⟨k+1,by omega,by go_num,HB5.out,fun j hj=>by
          by_cases hjk:j=k
          ·subst hjk; exact HQE.out.symm.trans hqb
          ·exact HQ.out j (by omega)⟩,by simp [intOf]; omega⟩
       | false =>
        have hop:opens x.kind c.kind=1:=by unfold opens; rw [hbk,HK.out]; rfl
        rw [hop] at HQE
        have HBK:=Lib.hid hbk
        clear hbk hop
        refine wp_region_held_drew (S:=fun w'=>RAt w' w.heap.size x∧Range.CellsAt w' b (o+k * 7) c) (by kernel_rfl) ⟨HR3.out,HCk.out⟩ (fun hHeld=>?_)
        generalize wr.drew=V at HB3 HR3 HCk HLc hBV hHeld ⊢
        refine tk 0 rfl (.pointer (some ⟨w.heap.size,0,none⟩)) ?_
        refine tk 1 rfl x.kind ?_ fun w' hS'=>by obtain ⟨y1,y2,c0,c1,c2,c3,c4,c5,c6⟩:=hS'.1; go_simp
        refine tk 2 rfl (.pointer (some ⟨w.heap.size,6,none⟩)) ?_
        refine tk 3 rfl (.slice (some ⟨b,o,none⟩) x.n x.e) ?_ fun w' hS'=>by obtain ⟨y1,y2,c0,c1,c2,c3,c4,c5,c6⟩:=hS'.1; rw [hLe] at c6; go_simp
        refine tk 4 rfl (.int .i64 k) ?_
        refine tk 5 rfl (.pointer (some ⟨b,o+k * 7,none⟩)) ?_
        refine tk 6 rfl (.pointer (some ⟨b,o+k * 7,none⟩)) ?_
        refine tk 7 rfl c.kind ?_ fun w' hS'=>by have:=hS'.2.cells.1; go_simp
        refine cl 8 rfl fun K hK=>?_
        go_simp
        refine (brackets_any x.kind c.kind _).mono ?_
        rintro e wm1 ⟨rfl,rfl⟩
        have hb:=True.intro
        rw [HBK.out]
        clear hb hHeld
        refine hK.out _ _ ⟨HR3.out,HCk.out⟩ (fun hHeld=>?_)
        clear hK K
        try simp only [Act.put,p1,p2,p3]
        refine wpAnyH_done (by kernel_rfl) ?_ _
        obtain ⟨y1,y2,c0,c1,c2,c3,c4,c5,c6⟩:=HR3.out
        obtain ⟨e0,e1,e2,e3,e4,e5,e6⟩:=HCk.out.cells
        rw [hLe] at c6
        go_wp2_with fail
        refine (IH.out q c B (d+1) wm1 hwt hlo HLc.out hBV (by omega)).mono ?_
        rintro e V2 ⟨rfl,hb⟩
        have HB5:=Lib.hid (HB3.out.trans (hb.mono HB3.out.size))
        clear hb y1 y2 c0 c1 c2 c3 c4 c5 c6 e0 e1 e2 e3 e4 e5 e6 HR3 HCk HLc
        cases hqb:goodR q (d+1)
        ·obtain rfl:R=false:=HG.out.trans (goodL_no hll (HQE.out.symm.trans hqb))
         clear HQ HG
         go_wp2
         go_ret
         exact ⟨rfl,HB2.out.trans (HB5.out.mono HB2.out.size)⟩
        ·go_wp2
         exact ⟨⟨k+1,by omega,by go_num,HB5.out,fun j hj=>by
          by_cases hjk:j=k
          ·subst hjk; exact HQE.out.symm.trans hqb
          ·exact HQ.out j (by omega)⟩,by simp [intOf]; omega⟩
      ·obtain rfl:k=x.n:=by omega
       have HA:=Lib.hid (goodL_at.2 fun j hj=>HQ.out j (by rw [← HLN.out]; exact hj))
       obtain rfl:R=true:=HG.out.trans HA.out
       have HR3:=Lib.hid (HRA2.out.kept HB3.out HRA2.out.1)
       obtain ⟨y1,y2,c0,c1,c2,c3,c4,c5,c6⟩:=HR3.out
       clear HG
       go_wp2
       go_ret
       exact ⟨rfl,HB2.out.trans (HB3.out.mono HB2.out.size)⟩
    ·have n1:((x.n:Int) == 1)=false:=beq_eq_false_iff_ne.2 (by omega)
     have n2:((x.n:Int) != 1)=true:=by rw [bne,n1]; rfl
     have HN:=Lib.hid hn
     clear hn
     obtain rfl:R=false:=by rw [HG.out,HFZ.out,decide_eq_false HN.out,Bool.false_and]
     clear HG HFZ
     go_wp2; go_ret
     exact ⟨rfl,HB2.out⟩
theorem refGoodR_full:∀ m,RefGoodAt m
 | 0=>fun r x B d w hm _ hx hB hg=>by rw [wt_eq] at hm; omega
 | m+1=>refGoodR_step m (refGoodR_full m)
end Go.Proofs.YtnpjklaaokiikaaGreatDoor.Range
namespace Go.Proofs.YtnpjklaaokiikaaGreatDoor.Span
open Go.RowKit Num Ident Semver Prec

def hasV (l:List Sp) (v:Ver):Bool:=l.any (hasOne (aheadOf v) (behindOf v))
theorem hasV_iff {l:List Sp} {v:Ver} (h:Rights l) (hv:right (aheadOf v)=true):hasV l v=true↔inS l (aheadOf v):=has_iff h hv
theorem ahead_in {v:Ver} (hv:right (aheadOf v)=true):inOne ⟨low,high⟩ (aheadOf v):=⟨low_le hv,lt_le (ahead_behind v) (le_high (right_behind hv))⟩
end Go.Proofs.YtnpjklaaokiikaaGreatDoor.Span
namespace Go.Proofs.YtnpjklaaokiikaaGreatDoor.Copy
open Go.RowKit Num Ident Semver Fr
open Range (Rng noRng RV Lies RgRow CellsAt KeepS LtB InS FitV wt wtL)
open KR (KRow AtV)
open Nrm (tot totL)

theorem tot_mem {q:Rng}:∀ {l:List Rng},q ∈ l→tot q≤totL l
 | x :: l,h=>by
  show tot q≤tot x+totL l
  rcases List.mem_cons.1 h with rfl | h
  ·omega
  ·have:=tot_mem h; omega
theorem tot_pos (r:Rng):1≤tot r:=by rw [Nrm.tot_eq]; omega
theorem len_tot:∀ l:List Rng,l.length≤totL l
 | []=>Nat.le_refl _
 | x :: l=>by
  show l.length+1≤tot x+totL l
  have:=len_tot l; have:=tot_pos x; omega
structure Td where
 A:Option Addr
 c:Nat
 rs:List Rng
def Td.val (t:Td):Value:=.slice t.A t.rs.length t.c
def TdOk (G:Ghost) (t:Td):Prop:=t.rs=[]∨∃ g,t.A=some ⟨g,0,none⟩∧G g=some t.rs
def tdW (t:Td):Nat:=1+2 * wtL t.rs
def sumW:List Td→Nat
 | []=>0
 | t :: T=>tdW t+sumW T
theorem sumW_append:∀ (T U:List Td),sumW (T ++ U)=sumW T+sumW U
 | [],U=>by show sumW U=0+sumW U; omega
 | t :: T,U=>by show tdW t+sumW (T ++ U)=tdW t+sumW T+sumW U; rw [sumW_append T U]; omega
theorem sumW_len:∀ T:List Td,T.length≤sumW T
 | []=>Nat.le_refl _
 | t :: T=>by
  show T.length+1≤tdW t+sumW T
  have:=sumW_len T; unfold tdW; omega
def Kids (rs:List Rng) (k:Nat) (K:List Td):Prop:=K.length=k∧sumW K≤2 * wtL (rs.take k)
theorem wtL_take:∀ (l:List Rng) (k:Nat),k<l.length→wtL (l.take (k+1))=wtL (l.take k)+wt (l.getD k noRng)
 | [],k,h=>absurd h (Nat.not_lt_zero _)
 | r :: rs,0,_=>by show wt r+wtL (rs.take 0)=0+wt r; rw [List.take_zero]; show wt r+0=_; omega
 | r :: rs,k+1,h=>by
  show wt r+wtL (rs.take (k+1))=wt r+wtL (rs.take k)+wt (rs.getD k noRng)
  rw [wtL_take rs k (by simpa using h)]; omega
theorem Kids.snoc {rs:List Rng} {k:Nat} {K:List Td} (h:Kids rs k K) (hk:k<rs.length) {t:Td} (ht:t.rs=(rs.getD k noRng).subs):Kids rs (k+1) (K ++ [t]):=by
 refine ⟨by rw [List.length_append,h.1]; rfl,?_⟩
 rw [sumW_append,wtL_take rs k hk]
 have:=h.2
 have e:wt (rs.getD k noRng)=1+wtL (rs.getD k noRng).subs:=Range.wt_eq _
 show sumW K+(tdW t+0)≤_
 unfold tdW
 rw [ht]
 omega
structure CopyAt (W1 W:World) (B:Nat) (G:Ghost) (v:Value) (T:List Td):Prop where
 typed:Typed W B G
 own:W.ownsRow W1.heap.size 53 1 v T.length (T.map Td.val)
 ok:∀ t ∈ T,TdOk G t
 hi:∀ g rs,G g=some rs→W1.heap.size≤g
 small:∀ g rs,G g=some rs→∀ q ∈ rs,tot q≤12
 bel:Below W1.heap.size W1 W
 le:B≤W1.heap.size
theorem CopyAt.below {W1 W W':World} {B:Nat} {G:Ghost} {v:Value} {T:List Td} (h:CopyAt W1 W B G v T) (hb:Below W.heap.size W W'):CopyAt W1 W' B G v T :=
 ⟨h.typed.below hb,own_below h.own hb,h.ok,h.hi,h.small,h.bel.trans (hb.mono h.bel.size),h.le⟩
theorem CopyAt.last {W1 W:World} {B:Nat} {G:Ghost} {v:Value} {R:List Td} {t:Td} (h:CopyAt W1 W B G v (R ++ [t])):∃ tb cp,v=.slice (some ⟨tb,0,none⟩) (R.length+1) cp∧tb<W.heap.size∧R.length+1≤cp∧W.cell? ⟨tb,R.length,none⟩=some t.val:=by
 have ho:=h.own
 have hlen:(R ++ [t]).length=R.length+1:=by simp
 rw [hlen] at ho
 rcases ho.2 with ⟨_,h0⟩ | ⟨g,cp,cur,rfl,hg,hh,hn,_⟩
 ·exact absurd h0 (Nat.succ_ne_zero _)
 ·refine ⟨g,cp,rfl,(Array.getElem?_eq_some_iff.1 hh).1,hn,?_⟩
  rw [ho.cellAt R.length (by omega)]
  simp
theorem CopyAt.pop {W1 W:World} {B:Nat} {G:Ghost} {tb cp:Nat} {R:List Td} {t:Td} (h:CopyAt W1 W B G (.slice (some ⟨tb,0,none⟩) (R.length+1) cp) (R ++ [t])):CopyAt W1 W B G (.slice (some ⟨tb,0,none⟩) R.length cp) R:=by
 refine ⟨h.typed,?_,fun z hz=>h.ok z (by simp [hz]),h.hi,h.small,h.bel,h.le⟩
 have ho:=h.own
 rw [show (R ++ [t]).length=R.length+1 by simp,List.map_append] at ho
 exact ownsRow_pop (by simp) ho
theorem CopyAt.apart {W1 W:World} {B:Nat} {G:Ghost} {v:Value} {T:List Td} (h:CopyAt W1 W B G v T) {tb:Nat} (hv:v.ownBlock=some tb):G tb=none∧Not W B tb:=by
 rcases h.own.2 with ⟨rfl,_⟩ | ⟨g,cp,cur,rfl,hg,hh,_⟩
 ·cases hv
 ·injection hv with hv
  have hv:g=tb:=hv
  subst hv
  refine ⟨?_,Nat.le_trans h.le hg,fun cur' q=>?_⟩
  ·cases hG:G g with
   | none=>rfl
   | some rs =>
    obtain ⟨c,xs,_,h2,_⟩:=h.typed g rs hG
    rcases h2.2 with ⟨e,_⟩ | ⟨g',cp',cur',e,_,hh',_⟩
    ·cases e
    ·injection e with e
     injection e with e
     injection e with e
     subst e
     rw [hh] at hh'
     injection hh' with hh'
     injection hh' with _ hh'
     exact absurd hh' (by decide)
  ·rw [hh] at q
   injection q with q
   injection q with _ q
   exact absurd q (by decide)
theorem CopyAt.cur {W1 W:World} {B:Nat} {G:Ghost} {v:Value} {T:List Td} (h:CopyAt W1 W B G v T) {g:Nat} {rs:List Rng} {j i:Nat} {u:Value} {y:RV} (hg:G g=some rs) (hc:Cur (W.setCell ⟨g,j * 7+i,none⟩ u) B G g rs j y):CopyAt W1 (W.setCell ⟨g,j * 7+i,none⟩ u) B G v T:=by
 refine ⟨hc.typed,own_but h.own (But.one W g _ u) (fun b e q=>?_),h.ok,h.hi,h.small,h.bel.setCell (p:=⟨g,j * 7+i,none⟩) (h.hi g rs hg) u,h.le⟩
 have q:b=g:=q
 have:=(h.apart e).1
 rw [q,hg] at this
 cases this
theorem CopyAt.add {W1 W:World} {B:Nat} {G:Ghost} {v:Value} {T:List Td} (h:CopyAt W1 W B G v T) {g:Nat} {rs:List Rng} (hn:G g=none) (hg:W1.heap.size≤g) {c:Nat} {xs:List RV} (h1:xs.length=rs.length) (h2:W.ownsRow B 55 7 (.slice (some ⟨g,0,none⟩) rs.length c) rs.length (xs.flatMap RV.vals)) (h3:∀ j,j<rs.length→Ok1 W B G (rs.getD j noRng) (xs.getD j default)) (h4:∀ q ∈ rs,tot q≤12) :
  CopyAt W1 W B (fun k=>if k=g then some rs else G k) v T:=by
 refine ⟨h.typed.add hn h1 h2 h3,h.own,fun t ht=>?_,fun k q hk=>?_,fun k q hk=>?_,h.bel,h.le⟩
 ·rcases h.ok t ht with h0 | ⟨k,e,hk⟩
  ·exact .inl h0
  ·refine .inr ⟨k,e,?_⟩
   show (if k=g then some rs else G k)=_
   rw [if_neg (fun q=>by rw [q,hn] at hk; cases hk)]; exact hk
 ·have hk:(if k=g then some rs else G k)=some q:=hk
  by_cases e:k=g
  ·rw [e]; exact hg
  ·rw [if_neg e] at hk; exact h.hi k q hk
 ·have hk:(if k=g then some rs else G k)=some q:=hk
  by_cases e:k=g
  ·rw [if_pos e] at hk
   injection hk with hk
   subst hk
   exact h4
  ·rw [if_neg e] at hk; exact h.small k q hk
theorem Typed.kids {W:World} {B:Nat} {G:Ghost} (h:Typed W B G) {r:Rng} {x:RV} (hx:Ok1 W B G r x):∃ xs:List RV,KRow RV.vals 7 W (fun _=>True) x.L x.n xs∧∀ j,j<x.n→Ok1 W B G (r.subs.getD j noRng) (xs.getD j default):=by
 rcases hx.at_ with ⟨f,h1,h2,h3⟩ | ⟨g,hL,hG⟩
 ·have hgd:∀ j,j<x.n→((List.range x.n).map f).getD j default=f j:=fun j hj=>by
   rw [List.getD_eq_getElem?_getD,List.getElem?_map,List.getElem?_range hj]; rfl
  refine ⟨(List.range x.n).map f,⟨by simp,fun h0=>?_⟩,fun j hj=>?_⟩
  ·obtain ⟨b,o,e,_,hc⟩:=h2 h0
   refine ⟨b,o,e,trivial,(hc 0 h0).lt,fun j hj i u hu=>?_⟩
   rw [hgd j hj] at hu
   exact hc j hj i u hu
  ·rw [hgd j hj]
   exact Ok1.of_lies (h3 j hj)
 ·obtain ⟨c,xs,h1,h2,h3⟩:=h g r.subs hG
  have hs:=hx.subs
  refine ⟨xs,⟨h1.trans hs,fun h0=>⟨g,0,hL,trivial,(own_at h2 h1 (by omega:0<r.subs.length)).2.1,fun j hj i u hu=>?_⟩⟩,fun j hj=>h3 j (by omega)⟩
  have:=(own_at h2 h1 (by omega:j<r.subs.length)).2.2.2.2 i u hu
  rwa [Nat.zero_add]
end Go.Proofs.YtnpjklaaokiikaaGreatDoor.Copy
