/-
  What the theorem of the last text needs of these: RgRefGood, SpPlain, RgCame. Conditions: as each theorem states.
-/
import Derived.Test.YtneilnibghhgmaaGreatDoorCkA1
import Derived.Test.YtneilnibghhgmaaGreatDoorCkA3
import Derived.Test.YtneilnibghhgmaaGreatDoorCkA7
import Derived.Test.YtneilnibghhgmaaGreatDoorCkA10
import Derived.Test.YtneilnibghhgmaaGreatDoorCkA12
import Derived.Test.YtneilnibghhgmaaGreatDoorCkA14
import Derived.Test.YtneilnibghhgmaaGreatDoorCkA16
import Derived.Deep.QuietTactic
import Derived.BigQuiet
set_option maxRecDepth 100000
set_option maxHeartbeats 25600000
namespace Go.Proofs.YtneilnibghhgmaaGreatDoor.Range
open Go.RowKit Num Ident Semver
theorem brackets_any (o k:Int) (w:World):Calls Tryz.prog 112 #[.int .i64 o,.int .i64 k] w fun e w'=>e=.returned (.bool (bracketed o k))∧w'=w:=by
 unfold bracketed
 go_enter Tryz.func112,Tryz.ntmps112
 by_cases h1:k=10
 ·go_wp2; go_ret
  exact ⟨by simp [h1],rfl⟩
 ·by_cases h2:k=9
  ·by_cases h3:o=10
   ·go_wp2; go_ret
    exact ⟨by simp [h2,h3],rfl⟩
   ·go_wp2; go_ret
    exact ⟨by simp [h2,h3],rfl⟩
  ·go_wp2; go_ret
   exact ⟨by simp [h1,h2],rfl⟩
theorem fits_out {k:Int} {v:Ver} {n:Nat} (h:k<0∨11<k):fits k v n=false:=by
 have ho:ofVersion k=false:=decide_eq_false (by omega)
 cases hs:sameV v noVer with
 | false=>exact fits_un ho hs
 | true =>
  rw [fits_zero ho hs,if_neg (by omega),if_neg (by omega),if_neg (by omega)]
def RefGoodAt (m:Nat):Prop:=∀ (r:Rng) (x:RV) (B d:Nat) (w:World),wt r≤m→LenOk r→Lies w (LtB B) r x→B≤w.heap.size→d≤70 →
  Calls Tryz.prog 73 #[x.agg,.int .i64 d] w fun e w'=>e=.returned (.bool (goodR r d))∧Below w.heap.size w w'
theorem refGoodR_step (m:Nat) (ih:RefGoodAt m):RefGoodAt (m+1):=by
  intro r x B d w hm hM hx hB hdd
  have IH:=Lib.hid ih
  clear ih
  have hs:=hx.says
  obtain ⟨f,hln,_,_⟩:=hs.subs
  have hfit:=hs.fit
  have HP:=Lib.hid hs.pre
  have HU:=Lib.hid hs.build
  have HB:Hid (Below w.heap.size w (w.alloc x)):=(Below.refl _ _).alloc (Nat.le_refl _) _
  have HRA:Hid (RAt (w.alloc x) w.heap.size x):=RAt.new w _ x
  have HL:=Lib.hid (hx.keep (KeepS.of_below (S:=LtB B) HB.out))
  have HG:Hid (goodR r d=(decide (d≤64) && fits x.kind x.v x.n && goodL x.kind r.subs d)):=by
   have e1:=hs.kind
   have e2:=hs.ver
   rw [← e1,← e2,← hln]
   obtain ⟨k,v,l⟩:=r
   exact goodR_eq k v l d
  rw [wt_eq] at hm
  have hxn:x.n≤9223372036854775807:=by rw [← hln]; exact hM.here
  have HLO:=Lib.hid hM
  have HLN:=Lib.hid hln
  clear hs hx hln hM
  unfold RV.agg
  generalize hR:goodR r d=R
  replace HG:Hid (R=(decide (d≤64) && fits x.kind x.v x.n && goodL x.kind r.subs d)):=hR.symm.trans HG.out
  clear hR
  go_enter Tryz.func73,Tryz.ntmps73
  go_upto_region 1 with (fail)
  generalize w.alloc x=W at HB HRA HL ⊢
  obtain ⟨y1,y2,c0,c1,c2,c3,c4,c5,c6⟩:=HRA.out
  by_cases hd:¬ d≤64
  ·have hd64:(64:Int)<(d:Int):=by omega
   obtain rfl:R=false:=by rw [HG.out,decide_eq_false hd,Bool.false_and,Bool.false_and]
   clear hd HG
   go_wp2; go_ret
   exact ⟨rfl,HB.out⟩
  replace hd:=Classical.not_not.1 hd
  have hd64:¬ (64:Int)<(d:Int):=by omega
  replace HG:Hid (R=(fits x.kind x.v x.n && goodL x.kind r.subs d)):=by unfold Hid; rw [HG.out,decide_eq_true hd,Bool.true_and]
  by_cases hk0:x.kind<0
  ·obtain rfl:R=false:=by rw [HG.out,fits_out (.inl hk0),Bool.false_and]
   clear HG
   go_wp2; go_ret
   exact ⟨rfl,HB.out⟩
  by_cases hk11:11<x.kind
  ·obtain rfl:R=false:=by rw [HG.out,fits_out (.inr hk11),Bool.false_and]
   clear HG
   go_wp2; go_ret
   exact ⟨rfl,HB.out⟩
  go_wp2_with fail
  refine (Semver.refSame_any x.v noVer x.A x.B none none x.c x.d 0 0 W (HP.out.kept HB.out) (HU.out.kept HB.out) (srow_none _ _) (srow_none _ _) hfit.pre hfit.build (Nat.zero_le _) (Nat.zero_le _)).mono ?_
  rintro e W2 ⟨rfl,hb⟩
  have HB2:=Lib.hid (HB.out.trans (hb.mono HB.out.size))
  have HRA2:=Lib.hid (HRA.out.kept hb HRA.out.1)
  have HL2:=Lib.hid (HL.out.keep (KeepS.of_below (S:=LtB B) hb))
  have hB2:B≤W2.heap.size:=Nat.le_trans hB HB2.out.size
  clear hb y1 y2 c0 c1 c2 c3 c4 c5 c6 HB HRA HL
  obtain ⟨y1,y2,c0,c1,c2,c3,c4,c5,c6⟩:=HRA2.out
  by_cases hv:1≤x.kind∧x.kind≤8
  ·obtain ⟨hv1,hv8⟩:=hv
   have HFV:Hid (fits x.kind x.v x.n=(goodV x.v && decide (x.n=0))):=fits_ver (decide_eq_true ⟨hv1,hv8⟩)
   go_wp2_with fail
   refine (Semver.refGood_all x.v x.A x.c x.B x.d W2 (HP.out.kept HB2.out) (HU.out.kept HB2.out) hfit.pre hfit.build hfit.pres hfit.builds).mono ?_
   rintro e W3 ⟨rfl,hb⟩
   have HB3:=Lib.hid (HB2.out.trans (hb.mono HB2.out.size))
   have HRA3:=Lib.hid (HRA2.out.kept hb HRA2.out.1)
   clear hb y1 y2 c0 c1 c2 c3 c4 c5 c6
   obtain ⟨y1,y2,c0,c1,c2,c3,c4,c5,c6⟩:=HRA3.out
   cases hgv:goodV x.v
   ·obtain rfl:R=false:=by rw [HG.out,HFV.out,hgv]; rfl
    clear HG HFV hgv
    go_wp2; go_ret
    exact ⟨rfl,HB3.out⟩
   ·by_cases hn:x.n=0
    ·obtain rfl:R=true:=by
      have h0:r.subs=[]:=List.eq_nil_of_length_eq_zero (HLN.out.trans hn)
      rw [HG.out,HFV.out,hgv,decide_eq_true hn,h0]; rfl
     have q0:((x.n:Int) == 0)=true:=beq_iff_eq.2 (by omega)
     clear HG HFV hgv hn
     go_wp2; go_ret
     exact ⟨rfl,HB3.out⟩
    ·have q0:((x.n:Int) == 0)=false:=beq_eq_false_iff_ne.2 (by omega)
     obtain rfl:R=false:=by rw [HG.out,HFV.out,hgv,decide_eq_false hn]; rfl
     clear HG HFV hgv hn
     go_wp2; go_ret
     exact ⟨rfl,HB3.out⟩
  have HOV:Hid (ofVersion x.kind=false):=decide_eq_false hv
  have hkk:x.kind=0∨x.kind=9∨x.kind=10∨x.kind=11:=by omega
  have hqv:¬ (1≤x.kind∧x.kind≤8):=hv
  cases hsv:sameV x.v noVer with
  | false =>
   obtain rfl:R=false:=by rw [HG.out,fits_un HOV.out hsv,Bool.false_and]
   clear HG
   by_cases h1:1≤x.kind
   ·have h8:¬ x.kind≤8:=by omega
    go_wp2; go_ret
    exact ⟨rfl,HB2.out⟩
   ·go_wp2; go_ret
    exact ⟨rfl,HB2.out⟩
  | true =>
   have HSV:=Lib.hid hsv
   clear hsv hv hqv
   rcases hkk with hK | hK | hK | hK
   ·have l1:¬ 1≤x.kind:=by omega
    have HK:=Lib.hid hK
    clear hK
    have q0:(x.kind == 0)=true:=by rw [HK.out]; rfl
    have q9:(x.kind == 9)=false:=by rw [HK.out]; rfl
    have q10:(x.kind == 10)=false:=by rw [HK.out]; rfl
    have q11:(x.kind == 11)=false:=by rw [HK.out]; rfl
    have HFZ:Hid (fits x.kind x.v x.n=decide (x.n=0)):=by unfold Hid; rw [fits_zero HOV.out HSV.out,HK.out]; rfl
    by_cases hn:x.n=0
    ·replace HG:Hid (R=goodL x.kind r.subs d):=by unfold Hid; rw [HG.out,HFZ.out,decide_eq_true hn,Bool.true_and]
     have n1:¬ (0:Int)<(x.n:Int):=by omega
     go_wp2
     go_loopw [6] (fun iv W'=>∃ k:Nat,k≤x.n∧iv=.int .i64 k∧Hid (Below W2.heap.size W2 W')∧Hid (∀ j,j<k→goodR (r.subs.getD j noRng) (d+opens x.kind (r.subs.getD j noRng).kind)=true)) (fun iv _=>x.n - (intOf iv).toNat)
     case atStart=>exact ⟨0,Nat.zero_le _,rfl,Below.refl _ _,fun j hj=>absurd hj (Nat.not_lt_zero j)⟩
     case round =>
      obtain ⟨k,hk,rfl,HB3,HQ⟩:=hrel
      by_cases hlt:k<x.n
      ·exfalso; omega
      ·obtain rfl:k=x.n:=by omega
       have HA:=Lib.hid (goodL_at.2 fun j hj=>HQ.out j (by rw [← HLN.out]; exact hj))
       obtain rfl:R=true:=HG.out.trans HA.out
       have HR3:=Lib.hid (HRA2.out.kept HB3.out HRA2.out.1)
       obtain ⟨y1,y2,c0,c1,c2,c3,c4,c5,c6⟩:=HR3.out
       clear HG
       go_wp2
       go_ret
       exact ⟨rfl,HB2.out.trans (HB3.out.mono HB2.out.size)⟩
    ·have n1:(0:Int)<(x.n:Int):=by omega
     have HN:=Lib.hid hn
     clear hn
     obtain rfl:R=false:=by rw [HG.out,HFZ.out,decide_eq_false HN.out,Bool.false_and]
     clear HG HFZ
     go_wp2; go_ret
     exact ⟨rfl,HB2.out⟩
   ·have l1:1≤x.kind:=by omega
    have l8:¬ x.kind≤8:=by omega
    have HK:=Lib.hid hK
    clear hK
    have q0:(x.kind == 0)=false:=by rw [HK.out]; rfl
    have q9:(x.kind == 9)=true:=by rw [HK.out]; rfl
    have q10:(x.kind == 10)=false:=by rw [HK.out]; rfl
    have q11:(x.kind == 11)=false:=by rw [HK.out]; rfl
    have HFZ:Hid (fits x.kind x.v x.n=decide (2≤x.n)):=by unfold Hid; rw [fits_zero HOV.out HSV.out,HK.out]; rfl
    by_cases hn:2≤x.n
    ·replace HG:Hid (R=goodL x.kind r.subs d):=by unfold Hid; rw [HG.out,HFZ.out,decide_eq_true hn,Bool.true_and]
     have n1:¬ (x.n:Int)<2:=by omega
     go_wp2
     go_loopw [6] (fun iv W'=>∃ k:Nat,k≤x.n∧iv=.int .i64 k∧Hid (Below W2.heap.size W2 W')∧Hid (∀ j,j<k→goodR (r.subs.getD j noRng) (d+opens x.kind (r.subs.getD j noRng).kind)=true)) (fun iv _=>x.n - (intOf iv).toNat)
     case atStart=>exact ⟨0,Nat.zero_le _,rfl,Below.refl _ _,fun j hj=>absurd hj (Nat.not_lt_zero j)⟩
     case round =>
      obtain ⟨k,hk,rfl,HB3,HQ⟩:=hrel
      by_cases hlt:k<x.n
      ·obtain ⟨b,o,c,hLe,hSb,hcl,hcy⟩:=HL2.out.says.subs.one hlt
       have hll:k<r.subs.length:=by rw [HLN.out]; exact hlt
       have hmem:r.subs.getD k noRng ∈ r.subs:=by
        rw [List.getD_eq_getElem?_getD,List.getElem?_eq_getElem (by omega)]; exact List.getElem_mem _
       have hwt:wt (r.subs.getD k noRng)≤m:=by have:=wt_mem hmem; omega
       have hlo:=HLO.out.sub hmem
       obtain ⟨q,hqq⟩:∃ q,q=r.subs.getD k noRng:=⟨_,rfl⟩
       have HQE:Hid (goodR q (d+opens x.kind c.kind)=goodR (r.subs.getD k noRng) (d+opens x.kind (r.subs.getD k noRng).kind)):=by unfold Hid; rw [← hcy.says.kind,← hqq]
       rw [← hqq] at hcy hwt hlo
       clear hqq hmem
       have HCk:Hid (CellsAt wr b (o+k * 7) c):=hcl.keep (KeepS.of_below (S:=LtB B) HB3.out) hSb
       have HLc:Hid (Lies wr (LtB B) q c):=hcy.keep (KeepS.of_below (S:=LtB B) HB3.out)
       have HR3:=Lib.hid (HRA2.out.kept HB3.out HRA2.out.1)
       clear hcl hcy
       rw [hLe]
       obtain ⟨y1,y2,c0,c1,c2,c3,c4,c5,c6⟩:=HR3.out
       rw [hLe] at c6
       go_upto_region 14 with (fail)
       clear y1 y2 c0 c1 c2 c3 c4 c5 c6
       replace HB3:Hid (Below W2.heap.size W2 wr.drew):=HB3.out.drew
       replace HR3:Hid (RAt wr.drew w.heap.size x):=HR3.out
       replace HCk:Hid (CellsAt wr.drew b (o+k * 7) c):=HCk.out
       replace HLc:Hid (Lies wr.drew (LtB B) q c):=HLc.out.keep (KeepS.of_below (S:=LtB B) (Below.refl _ _).drew)
       have hBV:B≤wr.drew.heap.size:=Nat.le_trans hB2 HB3.out.size
       cases hbk:bracketed x.kind c.kind with
       | true =>
        have hop:opens x.kind c.kind=1:=by unfold opens; rw [hbk,HK.out]; rfl
        rw [hop] at HQE
        have HBK:=Lib.hid hbk
        clear hbk hop
        refine wp_region_held_drew (S:=fun w'=>RAt w' w.heap.size x∧Range.CellsAt w' b (o+k * 7) c) (by kernel_rfl) ⟨HR3.out,HCk.out⟩ (fun hHeld=>?_)
        generalize wr.drew=V at HB3 HR3 HCk HLc hBV hHeld ⊢
        refine tk 0 rfl (.pointer (some ⟨w.heap.size,0,none⟩)) ?_
        refine tk 1 rfl x.kind ?_ fun w' hS'=>by obtain ⟨y1,y2,c0,c1,c2,c3,c4,c5,c6⟩:=hS'.1; go_simp
        refine tk 2 rfl (.pointer (some ⟨w.heap.size,6,none⟩)) ?_
        refine tk 3 rfl (.slice (some ⟨b,o,none⟩) x.n x.e) ?_ fun w' hS'=>by obtain ⟨y1,y2,c0,c1,c2,c3,c4,c5,c6⟩:=hS'.1; rw [hLe] at c6; go_simp
        refine tk 4 rfl (.int .i64 k) ?_
        refine tk 5 rfl (.pointer (some ⟨b,o+k * 7,none⟩)) ?_
        refine tk 6 rfl (.pointer (some ⟨b,o+k * 7,none⟩)) ?_
        refine tk 7 rfl c.kind ?_ fun w' hS'=>by have:=hS'.2.cells.1; go_simp
        refine cl 8 rfl fun K hK=>?_
        go_simp
        refine (brackets_any x.kind c.kind _).mono ?_
        rintro e wm1 ⟨rfl,rfl⟩
        have hb:=True.intro
        rw [HBK.out]
        clear hb hHeld
        refine hK.out _ _ ⟨HR3.out,HCk.out⟩ (fun hHeld=>?_)
        clear hK K
        try simp only [Act.put,p1,p2,p3]
        refine wpAnyH_done (by kernel_rfl) ?_ _
        obtain ⟨y1,y2,c0,c1,c2,c3,c4,c5,c6⟩:=HR3.out
        obtain ⟨e0,e1,e2,e3,e4,e5,e6⟩:=HCk.out.cells
        rw [hLe] at c6
        go_wp2_with fail
        refine (IH.out q c B (d+1) wm1 hwt hlo HLc.out hBV (by omega)).mono ?_
        rintro e V2 ⟨rfl,hb⟩
        have HB5:=Lib.hid (HB3.out.trans (hb.mono HB3.out.size))
        clear hb y1 y2 c0 c1 c2 c3 c4 c5 c6 e0 e1 e2 e3 e4 e5 e6 HR3 HCk HLc
        cases hqb:goodR q (d+1)
        ·obtain rfl:R=false:=HG.out.trans (goodL_no hll (HQE.out.symm.trans hqb))
         clear HQ HG
         go_wp2
         go_ret
         exact ⟨rfl,HB2.out.trans (HB5.out.mono HB2.out.size)⟩
        ·go_wp2
         exact ⟨⟨k+1,by omega,by go_num,HB5.out,fun j hj=>by
          by_cases hjk:j=k
          ·subst hjk; exact HQE.out.symm.trans hqb
          ·exact HQ.out j (by omega)⟩,by simp [intOf]; omega⟩
       | false =>
        have hop:opens x.kind c.kind=0:=by unfold opens; rw [hbk,HK.out]; rfl
        rw [hop] at HQE
        have HBK:=Lib.hid hbk
        clear hbk hop
        refine wp_region_held_drew (S:=fun w'=>RAt w' w.heap.size x∧Range.CellsAt w' b (o+k * 7) c) (by kernel_rfl) ⟨HR3.out,HCk.out⟩ (fun hHeld=>?_)
        generalize wr.drew=V at HB3 HR3 HCk HLc hBV hHeld ⊢
        refine tk 0 rfl (.pointer (some ⟨w.heap.size,0,none⟩)) ?_
        refine tk 1 rfl x.kind ?_ fun w' hS'=>by obtain ⟨y1,y2,c0,c1,c2,c3,c4,c5,c6⟩:=hS'.1; go_simp
        refine tk 2 rfl (.pointer (some ⟨w.heap.size,6,none⟩)) ?_
        refine tk 3 rfl (.slice (some ⟨b,o,none⟩) x.n x.e) ?_ fun w' hS'=>by obtain ⟨y1,y2,c0,c1,c2,c3,c4,c5,c6⟩:=hS'.1; rw [hLe] at c6; go_simp
        refine tk 4 rfl (.int .i64 k) ?_
        refine tk 5 rfl (.pointer (some ⟨b,o+k * 7,none⟩)) ?_
        refine tk 6 rfl (.pointer (some ⟨b,o+k * 7,none⟩)) ?_
        refine tk 7 rfl c.kind ?_ fun w' hS'=>by have:=hS'.2.cells.1; go_simp
        refine cl 8 rfl fun K hK=>?_
        go_simp
        refine (brackets_any x.kind c.kind _).mono ?_
        rintro e wm1 ⟨rfl,rfl⟩
        have hb:=True.intro
        rw [HBK.out]
        clear hb hHeld
        refine hK.out _ _ ⟨HR3.out,HCk.out⟩ (fun hHeld=>?_)
        clear hK K
        try simp only [Act.put,p1,p2,p3]
        refine wpAnyH_done (by kernel_rfl) ?_ _
        obtain ⟨y1,y2,c0,c1,c2,c3,c4,c5,c6⟩:=HR3.out
        obtain ⟨e0,e1,e2,e3,e4,e5,e6⟩:=HCk.out.cells
        rw [hLe] at c6
        go_wp2_with fail
        refine (IH.out q c B (d+0) wm1 hwt hlo HLc.out hBV (by omega)).mono ?_
        rintro e V2 ⟨rfl,hb⟩
        have HB5:=Lib.hid (HB3.out.trans (hb.mono HB3.out.size))
        clear hb y1 y2 c0 c1 c2 c3 c4 c5 c6 e0 e1 e2 e3 e4 e5 e6 HR3 HCk HLc
        cases hqb:goodR q (d+0)
        ·obtain rfl:R=false:=HG.out.trans (goodL_no hll (HQE.out.symm.trans hqb))
         clear HQ HG
         go_wp2
         go_ret
         exact ⟨rfl,HB2.out.trans (HB5.out.mono HB2.out.size)⟩
        ·go_wp2
         exact ⟨⟨k+1,by omega,by go_num,HB5.out,fun j hj=>by
          by_cases hjk:j=k
          ·subst hjk; exact HQE.out.symm.trans hqb
          ·exact HQ.out j (by omega)⟩,by simp [intOf]; omega⟩
      ·obtain rfl:k=x.n:=by omega
       have HA:=Lib.hid (goodL_at.2 fun j hj=>HQ.out j (by rw [← HLN.out]; exact hj))
       obtain rfl:R=true:=HG.out.trans HA.out
       have HR3:=Lib.hid (HRA2.out.kept HB3.out HRA2.out.1)
       obtain ⟨y1,y2,c0,c1,c2,c3,c4,c5,c6⟩:=HR3.out
       clear HG
       go_wp2
       go_ret
       exact ⟨rfl,HB2.out.trans (HB3.out.mono HB2.out.size)⟩
    ·have n1:(x.n:Int)<2:=by omega
     have HN:=Lib.hid hn
     clear hn
     obtain rfl:R=false:=by rw [HG.out,HFZ.out,decide_eq_false HN.out,Bool.false_and]
     clear HG HFZ
     go_wp2; go_ret
     exact ⟨rfl,HB2.out⟩
   ·have l1:1≤x.kind:=by omega
    have l8:¬ x.kind≤8:=by omega
    have HK:=Lib.hid hK
    clear hK
    have q0:(x.kind == 0)=false:=by rw [HK.out]; rfl
    have q9:(x.kind == 9)=false:=by rw [HK.out]; rfl
    have q10:(x.kind == 10)=true:=by rw [HK.out]; rfl
    have q11:(x.kind == 11)=false:=by rw [HK.out]; rfl
    have HFZ:Hid (fits x.kind x.v x.n=decide (2≤x.n)):=by unfold Hid; rw [fits_zero HOV.out HSV.out,HK.out]; rfl
    by_cases hn:2≤x.n
    ·replace HG:Hid (R=goodL x.kind r.subs d):=by unfold Hid; rw [HG.out,HFZ.out,decide_eq_true hn,Bool.true_and]
     have n1:¬ (x.n:Int)<2:=by omega
     go_wp2
     go_loopw [6] (fun iv W'=>∃ k:Nat,k≤x.n∧iv=.int .i64 k∧Hid (Below W2.heap.size W2 W')∧Hid (∀ j,j<k→goodR (r.subs.getD j noRng) (d+opens x.kind (r.subs.getD j noRng).kind)=true)) (fun iv _=>x.n - (intOf iv).toNat)
     case atStart=>exact ⟨0,Nat.zero_le _,rfl,Below.refl _ _,fun j hj=>absurd hj (Nat.not_lt_zero j)⟩
     case round =>
      obtain ⟨k,hk,rfl,HB3,HQ⟩:=hrel
      by_cases hlt:k<x.n
      ·obtain ⟨b,o,c,hLe,hSb,hcl,hcy⟩:=HL2.out.says.subs.one hlt
       have hll:k<r.subs.length:=by rw [HLN.out]; exact hlt
       have hmem:r.subs.getD k noRng ∈ r.subs:=by
        rw [List.getD_eq_getElem?_getD,List.getElem?_eq_getElem (by omega)]; exact List.getElem_mem _
       have hwt:wt (r.subs.getD k noRng)≤m:=by have:=wt_mem hmem; omega
       have hlo:=HLO.out.sub hmem
       obtain ⟨q,hqq⟩:∃ q,q=r.subs.getD k noRng:=⟨_,rfl⟩
       have HQE:Hid (goodR q (d+opens x.kind c.kind)=goodR (r.subs.getD k noRng) (d+opens x.kind (r.subs.getD k noRng).kind)):=by unfold Hid; rw [← hcy.says.kind,← hqq]
       rw [← hqq] at hcy hwt hlo
       clear hqq hmem
       have HCk:Hid (CellsAt wr b (o+k * 7) c):=hcl.keep (KeepS.of_below (S:=LtB B) HB3.out) hSb
       have HLc:Hid (Lies wr (LtB B) q c):=hcy.keep (KeepS.of_below (S:=LtB B) HB3.out)
       have HR3:=Lib.hid (HRA2.out.kept HB3.out HRA2.out.1)
       clear hcl hcy
       rw [hLe]
       obtain ⟨y1,y2,c0,c1,c2,c3,c4,c5,c6⟩:=HR3.out
       rw [hLe] at c6
       go_upto_region 14 with (fail)
       clear y1 y2 c0 c1 c2 c3 c4 c5 c6
       replace HB3:Hid (Below W2.heap.size W2 wr.drew):=HB3.out.drew
       replace HR3:Hid (RAt wr.drew w.heap.size x):=HR3.out
       replace HCk:Hid (CellsAt wr.drew b (o+k * 7) c):=HCk.out
       replace HLc:Hid (Lies wr.drew (LtB B) q c):=HLc.out.keep (KeepS.of_below (S:=LtB B) (Below.refl _ _).drew)
       have hBV:B≤wr.drew.heap.size:=Nat.le_trans hB2 HB3.out.size
       cases hbk:bracketed x.kind c.kind with
       | true =>
        have hop:opens x.kind c.kind=1:=by unfold opens; rw [hbk,HK.out]; rfl
        rw [hop] at HQE
        have HBK:=Lib.hid hbk
        clear hbk hop
        refine wp_region_held_drew (S:=fun w'=>RAt w' w.heap.size x∧Range.CellsAt w' b (o+k * 7) c) (by kernel_rfl) ⟨HR3.out,HCk.out⟩ (fun hHeld=>?_)
        generalize wr.drew=V at HB3 HR3 HCk HLc hBV hHeld ⊢
        refine tk 0 rfl (.pointer (some ⟨w.heap.size,0,none⟩)) ?_
        refine tk 1 rfl x.kind ?_ fun w' hS'=>by obtain ⟨y1,y2,c0,c1,c2,c3,c4,c5,c6⟩:=hS'.1; go_simp
        refine tk 2 rfl (.pointer (some ⟨w.heap.size,6,none⟩)) ?_
        refine tk 3 rfl (.slice (some ⟨b,o,none⟩) x.n x.e) ?_ fun w' hS'=>by obtain ⟨y1,y2,c0,c1,c2,c3,c4,c5,c6⟩:=hS'.1; rw [hLe] at c6; go_simp
        refine tk 4 rfl (.int .i64 k) ?_
        refine tk 5 rfl (.pointer (some ⟨b,o+k * 7,none⟩)) ?_
        refine tk 6 rfl (.pointer (some ⟨b,o+k * 7,none⟩)) ?_
        refine tk 7 rfl c.kind ?_ fun w' hS'=>by have:=hS'.2.cells.1; go_simp
        refine cl 8 rfl fun K hK=>?_
        go_simp
        refine (brackets_any x.kind c.kind _).mono ?_
        rintro e wm1 ⟨rfl,rfl⟩
        have hb:=True.intro
        rw [HBK.out]
        clear hb hHeld
        refine hK.out _ _ ⟨HR3.out,HCk.out⟩ (fun hHeld=>?_)
        clear hK K
        try simp only [Act.put,p1,p2,p3]
        refine wpAnyH_done (by kernel_rfl) ?_ _
        obtain ⟨y1,y2,c0,c1,c2,c3,c4,c5,c6⟩:=HR3.out
        obtain ⟨e0,e1,e2,e3,e4,e5,e6⟩:=HCk.out.cells
        rw [hLe] at c6
        go_wp2_with fail
        refine (IH.out q c B (d+1) wm1 hwt hlo HLc.out hBV (by omega)).mono ?_
        rintro e V2 ⟨rfl,hb⟩
        have HB5:=Lib.hid (HB3.out.trans (hb.mono HB3.out.size))
        clear hb y1 y2 c0 c1 c2 c3 c4 c5 c6 e0 e1 e2 e3 e4 e5 e6 HR3 HCk HLc
        cases hqb:goodR q (d+1)
        ·obtain rfl:R=false:=HG.out.trans (goodL_no hll (HQE.out.symm.trans hqb))
         clear HQ HG
         go_wp2
         go_ret
         exact ⟨rfl,HB2.out.trans (HB5.out.mono HB2.out.size)⟩
        ·go_wp2
         exact ⟨⟨k+1,by omega,by go_num,HB5.out,fun j hj=>by
          by_cases hjk:j=k
          ·subst hjk; exact HQE.out.symm.trans hqb
          ·exact HQ.out j (by omega)⟩,by simp [intOf]; omega⟩
       | false =>
        have hop:opens x.kind c.kind=0:=by unfold opens; rw [hbk,HK.out]; rfl
        rw [hop] at HQE
        have HBK:=Lib.hid hbk
        clear hbk hop
        refine wp_region_held_drew (S:=fun w'=>RAt w' w.heap.size x∧Range.CellsAt w' b (o+k * 7) c) (by kernel_rfl) ⟨HR3.out,HCk.out⟩ (fun hHeld=>?_)
        generalize wr.drew=V at HB3 HR3 HCk HLc hBV hHeld ⊢
        refine tk 0 rfl (.pointer (some ⟨w.heap.size,0,none⟩)) ?_
        refine tk 1 rfl x.kind ?_ fun w' hS'=>by obtain ⟨y1,y2,c0,c1,c2,c3,c4,c5,c6⟩:=hS'.1; go_simp
        refine tk 2 rfl (.pointer (some ⟨w.heap.size,6,none⟩)) ?_
        refine tk 3 rfl (.slice (some ⟨b,o,none⟩) x.n x.e) ?_ fun w' hS'=>by obtain ⟨y1,y2,c0,c1,c2,c3,c4,c5,c6⟩:=hS'.1; rw [hLe] at c6; go_simp
        refine tk 4 rfl (.int .i64 k) ?_
        refine tk 5 rfl (.pointer (some ⟨b,o+k * 7,none⟩)) ?_
        refine tk 6 rfl (.pointer (some ⟨b,o+k * 7,none⟩)) ?_
        refine tk 7 rfl c.kind ?_ fun w' hS'=>by have:=hS'.2.cells.1; go_simp
        refine cl 8 rfl fun K hK=>?_
        go_simp
        refine (brackets_any x.kind c.kind _).mono ?_
        rintro e wm1 ⟨rfl,rfl⟩
        have hb:=True.intro
        rw [HBK.out]
        clear hb hHeld
        refine hK.out _ _ ⟨HR3.out,HCk.out⟩ (fun hHeld=>?_)
        clear hK K
        try simp only [Act.put,p1,p2,p3]
        refine wpAnyH_done (by kernel_rfl) ?_ _
        obtain ⟨y1,y2,c0,c1,c2,c3,c4,c5,c6⟩:=HR3.out
        obtain ⟨e0,e1,e2,e3,e4,e5,e6⟩:=HCk.out.cells
        rw [hLe] at c6
        go_wp2_with fail
        refine (IH.out q c B (d+0) wm1 hwt hlo HLc.out hBV (by omega)).mono ?_
        rintro e V2 ⟨rfl,hb⟩
        have HB5:=Lib.hid (HB3.out.trans (hb.mono HB3.out.size))
        clear hb y1 y2 c0 c1 c2 c3 c4 c5 c6 e0 e1 e2 e3 e4 e5 e6 HR3 HCk HLc
        cases hqb:goodR q (d+0)
        ·obtain rfl:R=false:=HG.out.trans (goodL_no hll (HQE.out.symm.trans hqb))
         clear HQ HG
         go_wp2
         go_ret
         exact ⟨rfl,HB2.out.trans (HB5.out.mono HB2.out.size)⟩
        ·go_wp2
         exact ⟨⟨k+1,by omega,by go_num,HB5.out,fun j hj=>by
          by_cases hjk:j=k
          ·subst hjk; exact HQE.out.symm.trans hqb
          ·exact HQ.out j (by omega)⟩,by simp [intOf]; omega⟩
      ·obtain rfl:k=x.n:=by omega
       have HA:=Lib.hid (goodL_at.2 fun j hj=>HQ.out j (by rw [← HLN.out]; exact hj))
       obtain rfl:R=true:=HG.out.trans HA.out
       have HR3:=Lib.hid (HRA2.out.kept HB3.out HRA2.out.1)
       obtain ⟨y1,y2,c0,c1,c2,c3,c4,c5,c6⟩:=HR3.out
       clear HG
       go_wp2
       go_ret
       exact ⟨rfl,HB2.out.trans (HB3.out.mono HB2.out.size)⟩
    ·have n1:(x.n:Int)<2:=by omega
     have HN:=Lib.hid hn
     clear hn
     obtain rfl:R=false:=by rw [HG.out,HFZ.out,decide_eq_false HN.out,Bool.false_and]
     clear HG HFZ
     go_wp2; go_ret
     exact ⟨rfl,HB2.out⟩
   ·have l1:1≤x.kind:=by omega
    have l8:¬ x.kind≤8:=by omega
    have HK:=Lib.hid hK
    clear hK
    have q0:(x.kind == 0)=false:=by rw [HK.out]; rfl
    have q9:(x.kind == 9)=false:=by rw [HK.out]; rfl
    have q10:(x.kind == 10)=false:=by rw [HK.out]; rfl
    have q11:(x.kind == 11)=true:=by rw [HK.out]; rfl
    have HFZ:Hid (fits x.kind x.v x.n=decide (x.n=1)):=by unfold Hid; rw [fits_zero HOV.out HSV.out,HK.out]; rfl
    by_cases hn:x.n=1
    ·replace HG:Hid (R=goodL x.kind r.subs d):=by unfold Hid; rw [HG.out,HFZ.out,decide_eq_true hn,Bool.true_and]
     have n1:((x.n:Int) == 1)=true:=beq_iff_eq.2 (by omega)
     have n2:((x.n:Int) != 1)=false:=by rw [bne,n1]; rfl
     go_wp2
     go_loopw [6] (fun iv W'=>∃ k:Nat,k≤x.n∧iv=.int .i64 k∧Hid (Below W2.heap.size W2 W')∧Hid (∀ j,j<k→goodR (r.subs.getD j noRng) (d+opens x.kind (r.subs.getD j noRng).kind)=true)) (fun iv _=>x.n - (intOf iv).toNat)
     case atStart=>exact ⟨0,Nat.zero_le _,rfl,Below.refl _ _,fun j hj=>absurd hj (Nat.not_lt_zero j)⟩
     case round =>
      obtain ⟨k,hk,rfl,HB3,HQ⟩:=hrel
      by_cases hlt:k<x.n
      ·obtain ⟨b,o,c,hLe,hSb,hcl,hcy⟩:=HL2.out.says.subs.one hlt
       have hll:k<r.subs.length:=by rw [HLN.out]; exact hlt
       have hmem:r.subs.getD k noRng ∈ r.subs:=by
        rw [List.getD_eq_getElem?_getD,List.getElem?_eq_getElem (by omega)]; exact List.getElem_mem _
       have hwt:wt (r.subs.getD k noRng)≤m:=by have:=wt_mem hmem; omega
       have hlo:=HLO.out.sub hmem
       obtain ⟨q,hqq⟩:∃ q,q=r.subs.getD k noRng:=⟨_,rfl⟩
       have HQE:Hid (goodR q (d+opens x.kind c.kind)=goodR (r.subs.getD k noRng) (d+opens x.kind (r.subs.getD k noRng).kind)):=by unfold Hid; rw [← hcy.says.kind,← hqq]
       rw [← hqq] at hcy hwt hlo
       clear hqq hmem
       have HCk:Hid (CellsAt wr b (o+k * 7) c):=hcl.keep (KeepS.of_below (S:=LtB B) HB3.out) hSb
       have HLc:Hid (Lies wr (LtB B) q c):=hcy.keep (KeepS.of_below (S:=LtB B) HB3.out)
       have HR3:=Lib.hid (HRA2.out.kept HB3.out HRA2.out.1)
       clear hcl hcy
       rw [hLe]
       obtain ⟨y1,y2,c0,c1,c2,c3,c4,c5,c6⟩:=HR3.out
       rw [hLe] at c6
       go_upto_region 14 with (fail)
       clear y1 y2 c0 c1 c2 c3 c4 c5 c6
       replace HB3:Hid (Below W2.heap.size W2 wr.drew):=HB3.out.drew
       replace HR3:Hid (RAt wr.drew w.heap.size x):=HR3.out
       replace HCk:Hid (CellsAt wr.drew b (o+k * 7) c):=HCk.out
       replace HLc:Hid (Lies wr.drew (LtB B) q c):=HLc.out.keep (KeepS.of_below (S:=LtB B) (Below.refl _ _).drew)
       have hBV:B≤wr.drew.heap.size:=Nat.le_trans hB2 HB3.out.size
       cases hbk:bracketed x.kind c.kind with
       | true =>
        have hop:opens x.kind c.kind=2:=by unfold opens; rw [hbk,HK.out]; rfl
        rw [hop] at HQE
        have HBK:=Lib.hid hbk
        clear hbk hop
        refine wp_region_held_drew (S:=fun w'=>RAt w' w.heap.size x∧Range.CellsAt w' b (o+k * 7) c) (by kernel_rfl) ⟨HR3.out,HCk.out⟩ (fun hHeld=>?_)
        generalize wr.drew=V at HB3 HR3 HCk HLc hBV hHeld ⊢
        refine tk 0 rfl (.pointer (some ⟨w.heap.size,0,none⟩)) ?_
        refine tk 1 rfl x.kind ?_ fun w' hS'=>by obtain ⟨y1,y2,c0,c1,c2,c3,c4,c5,c6⟩:=hS'.1; go_simp
        refine tk 2 rfl (.pointer (some ⟨w.heap.size,6,none⟩)) ?_
        refine tk 3 rfl (.slice (some ⟨b,o,none⟩) x.n x.e) ?_ fun w' hS'=>by obtain ⟨y1,y2,c0,c1,c2,c3,c4,c5,c6⟩:=hS'.1; rw [hLe] at c6; go_simp
        refine tk 4 rfl (.int .i64 k) ?_
        refine tk 5 rfl (.pointer (some ⟨b,o+k * 7,none⟩)) ?_
        refine tk 6 rfl (.pointer (some ⟨b,o+k * 7,none⟩)) ?_
        refine tk 7 rfl c.kind ?_ fun w' hS'=>by have:=hS'.2.cells.1; go_simp
        refine cl 8 rfl fun K hK=>?_
        go_simp
        refine (brackets_any x.kind c.kind _).mono ?_
        rintro e wm1 ⟨rfl,rfl⟩
        have hb:=True.intro
        rw [HBK.out]
        clear hb hHeld
        refine hK.out _ _ ⟨HR3.out,HCk.out⟩ (fun hHeld=>?_)
        clear hK K
        try simp only [Act.put,p1,p2,p3]
        refine wpAnyH_done (by kernel_rfl) ?_ _
        obtain ⟨y1,y2,c0,c1,c2,c3,c4,c5,c6⟩:=HR3.out
        obtain ⟨e0,e1,e2,e3,e4,e5,e6⟩:=HCk.out.cells
        rw [hLe] at c6
        go_wp2_with fail
        refine (IH.out q c B (d+2) wm1 hwt hlo HLc.out hBV (by omega)).mono ?_
        rintro e V2 ⟨rfl,hb⟩
        have HB5:=Lib.hid (HB3.out.trans (hb.mono HB3.out.size))
        clear hb y1 y2 c0 c1 c2 c3 c4 c5 c6 e0 e1 e2 e3 e4 e5 e6 HR3 HCk HLc
        cases hqb:goodR q (d+2)
        ·obtain rfl:R=false:=HG.out.trans (goodL_no hll (HQE.out.symm.trans hqb))
         clear HQ HG
         go_wp2
         go_ret
         exact ⟨rfl,HB2.out.trans (HB5.out.mono HB2.out.size)⟩
        ·go_wp2
         exact ⟨⟨k+1,by omega,by go_num,HB5.out,fun j hj=>by
          by_cases hjk:j=k
          ·subst hjk; exact HQE.out.symm.trans hqb
          ·exact HQ.out j (by omega)⟩,by simp [intOf]; omega⟩
       | false =>
        have hop:opens x.kind c.kind=1:=by unfold opens; rw [hbk,HK.out]; rfl
        rw [hop] at HQE
        have HBK:=Lib.hid hbk
        clear hbk hop
        refine wp_region_held_drew (S:=fun w'=>RAt w' w.heap.size x∧Range.CellsAt w' b (o+k * 7) c) (by kernel_rfl) ⟨HR3.out,HCk.out⟩ (fun hHeld=>?_)
        generalize wr.drew=V at HB3 HR3 HCk HLc hBV hHeld ⊢
        refine tk 0 rfl (.pointer (some ⟨w.heap.size,0,none⟩)) ?_
        refine tk 1 rfl x.kind ?_ fun w' hS'=>by obtain ⟨y1,y2,c0,c1,c2,c3,c4,c5,c6⟩:=hS'.1; go_simp
        refine tk 2 rfl (.pointer (some ⟨w.heap.size,6,none⟩)) ?_
        refine tk 3 rfl (.slice (some ⟨b,o,none⟩) x.n x.e) ?_ fun w' hS'=>by obtain ⟨y1,y2,c0,c1,c2,c3,c4,c5,c6⟩:=hS'.1; rw [hLe] at c6; go_simp
        refine tk 4 rfl (.int .i64 k) ?_
        refine tk 5 rfl (.pointer (some ⟨b,o+k * 7,none⟩)) ?_
        refine tk 6 rfl (.pointer (some ⟨b,o+k * 7,none⟩)) ?_
        refine tk 7 rfl c.kind ?_ fun w' hS'=>by have:=hS'.2.cells.1; go_simp
        refine cl 8 rfl fun K hK=>?_
        go_simp
        refine (brackets_any x.kind c.kind _).mono ?_
        rintro e wm1 ⟨rfl,rfl⟩
        have hb:=True.intro
        rw [HBK.out]
        clear hb hHeld
        refine hK.out _ _ ⟨HR3.out,HCk.out⟩ (fun hHeld=>?_)
        clear hK K
        try simp only [Act.put,p1,p2,p3]
        refine wpAnyH_done (by kernel_rfl) ?_ _
        obtain ⟨y1,y2,c0,c1,c2,c3,c4,c5,c6⟩:=HR3.out
        obtain ⟨e0,e1,e2,e3,e4,e5,e6⟩:=HCk.out.cells
        rw [hLe] at c6
        go_wp2_with fail
        refine (IH.out q c B (d+1) wm1 hwt hlo HLc.out hBV (by omega)).mono ?_
        rintro e V2 ⟨rfl,hb⟩
        have HB5:=Lib.hid (HB3.out.trans (hb.mono HB3.out.size))
        clear hb y1 y2 c0 c1 c2 c3 c4 c5 c6 e0 e1 e2 e3 e4 e5 e6 HR3 HCk HLc
        cases hqb:goodR q (d+1)
        ·obtain rfl:R=false:=HG.out.trans (goodL_no hll (HQE.out.symm.trans hqb))
         clear HQ HG
         go_wp2
         go_ret
         exact ⟨rfl,HB2.out.trans (HB5.out.mono HB2.out.size)⟩
        ·go_wp2
         exact ⟨⟨k+1,by omega,by go_num,HB5.out,fun j hj=>by
          by_cases hjk:j=k
          ·subst hjk; exact HQE.out.symm.trans hqb
          ·exact HQ.out j (by omega)⟩,by simp [intOf]; omega⟩
      ·obtain rfl:k=x.n:=by omega
       have HA:=Lib.hid (goodL_at.2 fun j hj=>HQ.out j (by rw [← HLN.out]; exact hj))
       obtain rfl:R=true:=HG.out.trans HA.out
       have HR3:=Lib.hid (HRA2.out.kept HB3.out HRA2.out.1)
       obtain ⟨y1,y2,c0,c1,c2,c3,c4,c5,c6⟩:=HR3.out
       clear HG
       go_wp2
       go_ret
       exact ⟨rfl,HB2.out.trans (HB3.out.mono HB2.out.size)⟩
    ·have n1:((x.n:Int) == 1)=false:=beq_eq_false_iff_ne.2 (by omega)
     have n2:((x.n:Int) != 1)=true:=by rw [bne,n1]; rfl
     have HN:=Lib.hid hn
     clear hn
     obtain rfl:R=false:=by rw [HG.out,HFZ.out,decide_eq_false HN.out,Bool.false_and]
     clear HG HFZ
     go_wp2; go_ret
     exact ⟨rfl,HB2.out⟩
theorem refGoodR_full:∀ m,RefGoodAt m
 | 0=>fun r x B d w hm _ hx hB hg=>by rw [wt_eq] at hm; omega
 | m+1=>refGoodR_step m (refGoodR_full m)
end Go.Proofs.YtneilnibghhgmaaGreatDoor.Range
namespace Go.Proofs.YtneilnibghhgmaaGreatDoor.Span
open Go.RowKit Num Ident Semver Prec

def Rights (l:List Sp):Prop:=∀ s ∈ l,right s.lo=true∧right s.hi=true
theorem Norm.rights {l:List Sp} (h:Norm l):Rights l:=fun s hs=>⟨((cnt_iff s).1 (h.cnt s hs)).1,((cnt_iff s).1 (h.cnt s hs)).2.1⟩
theorem right_behind {v:Ver} (h:right (aheadOf v)=true):right (behindOf v)=true:=by
 rw [right_ver (.inl rfl)] at h
 rw [right_ver (.inr rfl)]; exact h
theorem hasOne_iff {s:Sp} {v:Ver} (h:right s.lo=true∧right s.hi=true) (hv:right (aheadOf v)=true):hasOne (aheadOf v) (behindOf v) s=true↔inOne s (aheadOf v):=by
 unfold hasOne inOne
 rw [Bool.and_eq_true,decide_eq_true_eq,decide_eq_true_eq,cmpC_right h.1 hv,cmpC_right h.2 (right_behind hv),behind_le]
 have:=stand_flip s.hi (behindOf v)
 constructor
 ·rintro ⟨a,b⟩; exact ⟨a,by omega⟩
 ·rintro ⟨a,b⟩; exact ⟨a,by omega⟩
theorem has_iff {l:List Sp} {v:Ver} (h:Rights l) (hv:right (aheadOf v)=true):l.any (hasOne (aheadOf v) (behindOf v))=true↔inS l (aheadOf v):=by
 rw [List.any_eq_true]
 exact ⟨fun ⟨s,hs,hi⟩=>⟨s,hs,(hasOne_iff (h s hs) hv).1 hi⟩,fun ⟨s,hs,hi⟩=>⟨s,hs,(hasOne_iff (h s hs) hv).2 hi⟩⟩
theorem inR_nil (c:Cut):¬ inR [] c:=fun ⟨s,hs,_⟩=>by cases hs
theorem low_ahead (v:Ver):stand low (aheadOf v)<0:=by
 rw [stand_kind (by rintro ⟨h,_⟩; exact absurd h (by decide))]; exact (show ordI 0 1<0 by decide)
theorem behind_high (v:Ver):stand (behindOf v) high<0:=by
 rw [stand_kind (by rintro ⟨_,h⟩; exact absurd h (by decide))]; exact (show ordI 2 3<0 by decide)
end Go.Proofs.YtneilnibghhgmaaGreatDoor.Span
namespace Go.Proofs.YtneilnibghhgmaaGreatDoor.Came
open Go.ChangeShapes Go.WideShapes Go.RowKit Go.Deep
open Range (Rng noRng RV LenOk LtB InS)
theorem ver_full {H:Type} {enc:TypeId × Value→H} {W:World} {fuel:Nat} {l:List Value} {y:DataW H × List MemPlace} (hf:DataW.trod enc Tryz.prog W 0 (fun _=>true) true fuel 47 l=some y) :
  ∃ (v:Semver.Ver) (A:Option Addr) (c:Nat) (B:Option Addr) (d:Nat),l=[.int .u64 v.a,.int .u64 v.b,.int .u64 v.c,.slice A v.pre.length c,.slice B v.build.length d]∧Ident.SRow W A v.pre.length v.pre∧Ident.SRow W B v.build.length v.build∧Range.FitV v∧v.pre.length≤c∧v.build.length≤d∧(Sized 47 y.1→v.pre.length≤8796093022208∧v.build.length≤8796093022208):=by
 have hC:Tryz.prog.cellsOf 47=5:=by kernel_rfl
 have cu:Tryz.prog.cellsOf 44=1:=by kernel_rfl
 have ct:Tryz.prog.cellsOf 45=1:=by kernel_rfl
 obtain ⟨xs,n,_,hy,hsz,hlen,hg⟩:=DataW.trod_struct Tryz.underlying47 hf
 have hl:xs.length=5:=hlen
 rw [hC] at hsz
 match l,hsz with
 | [z0,z1,z2,z3,z4],_ =>
  match xs,hl with
  | [y0,y1,y2,y3,y4],_ =>
   have f0:DataW.trod enc Tryz.prog W 0 (fun _=>true) true n 44 (([z0,z1,z2,z3,z4].drop 0).take (Tryz.prog.cellsOf 44))=some y0:=hg 0 _ rfl
   rw [cu] at f0
   have g0:DataW.trod enc Tryz.prog W 0 (fun _=>true) true n 44 [z0]=some y0:=f0
   have f1:DataW.trod enc Tryz.prog W 0 (fun _=>true) true n 44 (([z0,z1,z2,z3,z4].drop 1).take (Tryz.prog.cellsOf 44))=some y1:=hg 1 _ rfl
   rw [cu] at f1
   have g1:DataW.trod enc Tryz.prog W 0 (fun _=>true) true n 44 [z1]=some y1:=f1
   have f2:DataW.trod enc Tryz.prog W 0 (fun _=>true) true n 44 (([z0,z1,z2,z3,z4].drop 2).take (Tryz.prog.cellsOf 44))=some y2:=hg 2 _ rfl
   rw [cu] at f2
   have g2:DataW.trod enc Tryz.prog W 0 (fun _=>true) true n 44 [z2]=some y2:=f2
   have f3:DataW.trod enc Tryz.prog W 0 (fun _=>true) true n 45 (([z0,z1,z2,z3,z4].drop 3).take (Tryz.prog.cellsOf 45))=some y3:=hg 3 _ rfl
   rw [ct] at f3
   have g3:DataW.trod enc Tryz.prog W 0 (fun _=>true) true n 45 [z3]=some y3:=f3
   have f4:DataW.trod enc Tryz.prog W 0 (fun _=>true) true n 45 (([z0,z1,z2,z3,z4].drop 4).take (Tryz.prog.cellsOf 45))=some y4:=hg 4 _ rfl
   rw [ct] at f4
   have g4:DataW.trod enc Tryz.prog W 0 (fun _=>true) true n 45 [z4]=some y4:=f4
   clear f0 f1 f2 f3 f4 hg
   obtain ⟨a,rfl,wa⟩:=field_read g0
   obtain ⟨b,rfl,wb⟩:=field_read g1
   obtain ⟨c,rfl,wc⟩:=field_read g2
   obtain ⟨A,m1,c1,p,e1,r1,q1,k1,u1,s1⟩:=texts_at g3
   obtain ⟨B,m2,c2,t,e2,r2,q2,k2,_,s2⟩:=texts_at g4
   simp at e1 e2
   subst e1
   subst e2
   obtain rfl:=r1.1
   obtain rfl:=r2.1
   refine ⟨⟨a,b,c,p,t⟩,A,c1,B,c2,rfl,r1,r2,⟨wa,wb,wc,Nat.le_trans q1 k1,Nat.le_trans q2 k2,s1,s2⟩,q1,q2,fun hs=>?_⟩
   rw [hy] at hs
   exact ⟨texts_len g3 (hs.part Tryz.underlying47 (i:=3) rfl rfl),texts_len g4 (hs.part Tryz.underlying47 (i:=4) rfl rfl)⟩
theorem ins_of {W:World} {A:Option Addr} {n:Nat} {l:List (List UInt8)} (h:Ident.SRow W A n l):InS (LtB W.heap.size) A n:=by
 intro h0
 obtain ⟨b,o,e,hb,_⟩:=h.2 h0
 exact ⟨b,o,e,hb⟩
theorem rng_at {H:Type} {enc:TypeId × Value→H} {W:World}:∀ (N fuel:Nat) (l:List Value) (y:DataW H × List MemPlace),fuel≤N→DataW.trod enc Tryz.prog W 0 (fun _=>true) true fuel 59 l=some y →
  ∃ (r:Rng) (x:RV),l=x.vals∧Range.Lies W (LtB W.heap.size) r x∧LenOk r∧(Sized 59 y.1→Nrm.Slim r)
 | 0,fuel,l,y,hN,hf=>by
  obtain ⟨xs,n,e,_⟩:=DataW.trod_struct Tryz.underlying59 hf
  omega
 | N+1,fuel,l,y,hN,hf=>by
  have hC:Tryz.prog.cellsOf 59=7:=by kernel_rfl
  have ci:Tryz.prog.cellsOf 3=1:=by kernel_rfl
  have cv:Tryz.prog.cellsOf 47=5:=by kernel_rfl
  have cl:Tryz.prog.cellsOf 57=1:=by kernel_rfl
  obtain ⟨xs,n,hfn,hy0,hsz,hlen,hg⟩:=DataW.trod_struct Tryz.underlying59 hf
  have hl:xs.length=3:=hlen
  rw [hC] at hsz
  match l,hsz with
  | [z0,z1,z2,z3,z4,z5,z6],_ =>
   match xs,hl with
   | [y0,y1,y2],_ =>
    have f0:DataW.trod enc Tryz.prog W 0 (fun _=>true) true n 3 (([z0,z1,z2,z3,z4,z5,z6].drop 0).take (Tryz.prog.cellsOf 3))=some y0:=hg 0 _ rfl
    rw [ci] at f0
    have g0:DataW.trod enc Tryz.prog W 0 (fun _=>true) true n 3 [z0]=some y0:=f0
    have f1:DataW.trod enc Tryz.prog W 0 (fun _=>true) true n 47 (([z0,z1,z2,z3,z4,z5,z6].drop 1).take (Tryz.prog.cellsOf 47))=some y1:=hg 1 _ rfl
    rw [cv] at f1
    have g1:DataW.trod enc Tryz.prog W 0 (fun _=>true) true n 47 [z1,z2,z3,z4,z5]=some y1:=f1
    have f2:DataW.trod enc Tryz.prog W 0 (fun _=>true) true n 57 (([z0,z1,z2,z3,z4,z5,z6].drop 6).take (Tryz.prog.cellsOf 57))=some y2:=hg 2 _ rfl
    rw [cl] at f2
    have g2:DataW.trod enc Tryz.prog W 0 (fun _=>true) true n 57 [z6]=some y2:=f2
    clear f0 f1 f2 hg
    obtain ⟨k,rfl⟩:=kind_read g0
    obtain ⟨v,A,c,B,d,e,h1,h2,h3,h4,h5,hvs⟩:=ver_full g1
    have hpv:Sized 59 y.1→v.pre.length≤8796093022208∧v.build.length≤8796093022208:=fun hs=>by
     rw [hy0] at hs
     exact hvs (hs.part Tryz.underlying59 (i:=1) rfl rfl)
    have hps:Sized 59 y.1→Sized 57 y2.1:=fun hs=>by
     rw [hy0] at hs
     exact hs.part Tryz.underlying59 (i:=2) rfl rfl
    simp only [List.cons.injEq,and_true] at e
    obtain ⟨rfl,rfl,rfl,rfl,rfl⟩:=e
    rcases DataW.trod_slice Tryz.underlying57 g2 with ⟨hz,_⟩ | ⟨a,len,cap,elems,rest,n2,hn2,hz,hy2,_,hlc,hcm,hel,hi,_,_⟩
    ·simp only [List.cons.injEq,and_true] at hz
     subst hz
     exact ⟨.mk k v [],⟨k,v,A,c,B,d,none,0,0⟩,rfl,Range.Lies.version k v A c B d h1 h2 (ins_of h1) (ins_of h2) h4 h5 h3,.mk k v [] (by simp) (fun y hy=>by cases hy),fun hs=>.mk k v [] (hpv hs).1 (hpv hs).2 (fun y hy=>by cases hy)⟩
    ·simp only [List.cons.injEq,and_true] at hz
     subst hz
     rw [hC] at hi
     obtain ⟨ps,hpl,hp⟩:=list_of (α:=Rng × RV) (P:=fun i (p:Rng × RV)=>(Range.Lies W (LtB W.heap.size) p.1 p.2∧LenOk p.1∧(Sized 59 y.1→Nrm.Slim p.1))∧∀ j u,p.2.vals[j]?=some u→W.cell? ((a.add (i * 7)).add j)=some u) len fun i hi'=>by
      have h0:=hi i hi'
      rw [List.getElem?_eq_getElem (show i<elems.length by omega),Option.bind_eq_some_iff] at h0
      obtain ⟨cs,hc,ht⟩:=h0
      obtain ⟨_,hcl,hat⟩:=World.cells?_some hc
      obtain ⟨r,x,e,hr,ho,hsl⟩:=rng_at N n2 cs _ (by omega) ht
      refine ⟨(r,x),⟨hr,ho,fun hs=>hsl (by
       have h2:=hps hs
       rw [hy2] at h2
       exact h2.elem Tryz.underlying57 (i:=i) (List.getElem?_eq_getElem (show i<elems.length by omega)))⟩,fun j u hu=>?_⟩
      have hj:j<7:=(List.getElem?_eq_some_iff.1 hu).1
      rw [hat j hj,e]; exact hu
     have hgd:∀ j,j<len→(ps.map Prod.fst).getD j noRng=(ps.getD j default).1:=fun j hj=>by
      rw [List.getD_eq_getElem?_getD,List.getD_eq_getElem?_getD,List.getElem?_map,List.getElem?_eq_getElem (show j<ps.length by omega)]; rfl
     refine ⟨.mk k v (ps.map Prod.fst),⟨k,v,A,c,B,d,some a,len,cap⟩,rfl,Range.Lies.mk ⟨k,v,A,c,B,d,some a,len,cap⟩ (ps.map Prod.fst) (fun j=>(ps.getD j default).2) (by simp [hpl]) hlc h1 h2 (ins_of h1) (ins_of h2) h4 h5 h3 (fun e=>by cases e) (fun h0=>?_) (fun j hj=>?_),.mk k v _ (by rw [List.length_map,hpl]; unfold maxLen at hcm; omega) (fun q hq=>?_),fun hs=>.mk k v _ (hpv hs).1 (hpv hs).2 (fun q hq=>?_)⟩
     ·have h0:0<len:=h0
      obtain ⟨b,o,spot⟩:=a
      have h0c:=(hp 0 h0).2 0 _ rfl
      have hspot:spot=none:=by simpa [Addr.add] using World.cell?_spot h0c
      subst hspot
      refine ⟨b,o,rfl,?_,fun j hj i u hu=>?_⟩
      ·have:=World.block_lt_of_cell? W _ h0c
       rwa [Num.add_none,Num.add_none] at this
      ·have e:=(hp j hj).2 i u hu
       rwa [Num.add_none,Num.add_none] at e
     ·rw [hgd j hj]; exact (hp j hj).1.1
     ·obtain ⟨p,hp1,rfl⟩:=List.mem_map.1 hq
      obtain ⟨j,hj,rfl⟩:=List.getElem_of_mem hp1
      have:=(hp j (by omega)).1.2.1
      simpa [List.getD,List.getElem?_eq_getElem hj] using this
     ·obtain ⟨p,hp1,rfl⟩:=List.mem_map.1 hq
      obtain ⟨j,hj,rfl⟩:=List.getElem_of_mem hp1
      have:=(hp j (by omega)).1.2.2 hs
      simpa [List.getD,List.getElem?_eq_getElem hj] using this
end Go.Proofs.YtneilnibghhgmaaGreatDoor.Came
