/-
  What the theorem of the last text needs of these: NmRefPiece, NmPcsMem. Conditions: as each theorem states.
-/
import Derived.Test.YtgfbflnhjpbceaaGreatDoorSetB1
import Derived.Test.YtgfbflnhjpbceaaGreatDoorSetB20
import Derived.Test.YtgfbflnhjpbceaaGreatDoorSetB34
import Derived.Test.YtgfbflnhjpbceaaGreatDoorSetB35
import Derived.Deep.CutBlock
import Derived.Deep.DeepCutAuto
set_option maxRecDepth 100000
set_option maxHeartbeats 25600000
namespace Go.Proofs.YtgfbflnhjpbceaaGreatDoor.Nrm
open Go.RowKit Num Ident Semver Prec Span
open Range (Rng noRng goodR goodL fits RV RAt WRow InS LtB wt wtL wtL_len wt_mem KeepS zeroRV wpList_append_rg)
def Off (N M:Nat) (g:Nat):Prop:=g<N∨M<g
theorem ins_lt {w:World} {A:Option Addr} {n N M:Nat} {xs:List (List UInt8)} (h:SRow w A n xs) (hN:w.heap.size≤N):InS (Off N M) A n:=fun h0=>by
 obtain ⟨b,o,e,hlt,_⟩:=h.2 h0
 exact ⟨b,o,e,.inl (Nat.lt_of_lt_of_le hlt hN)⟩
theorem weak_ver {w0 W:World} {r:RCut} (M:Nat) (h:Span.Lies w0 r) (hb:Below w0.heap.size w0 W) (k:Int):Range.Weak W (Off w0.heap.size M) (.mk k r.v []) (verRV k r) :=
 Range.Weak.version k r.v r.A r.c r.B r.d (h.pre.kept hb) (h.build.kept hb) (ins_lt h.pre (Nat.le_refl _)) (ins_lt h.build (Nat.le_refl _)) h.fpre.1 h.fbuild.1
theorem PcAt.wrow {w0 w W:World} {p5 p6:Nat} {lo hi:RCut} {v:Value} {qs:List (Int × RCut)} (h:PcAt w W p5 p6 lo hi v qs) (hb:Below w0.heap.size w0 W) (ho:∀ q ∈ qs,Span.Lies w0 q.2) :
  ∃ L e,v=.slice L qs.length e∧WRow W (Off w0.heap.size w.heap.size) L qs.length (rgs qs):=by
 refine Range.WRow.of_own h.own (fun g hg=>.inr (by omega)) (by unfold rvs; rw [List.length_map]) (by unfold rgs; rw [List.length_map]) fun j hj=>?_
 have e1:(rgs qs).getD j noRng=.mk qs[j].1 qs[j].2.v []:=by
  unfold rgs; rw [List.getD_eq_getElem?_getD,List.getElem?_map,List.getElem?_eq_getElem hj]; rfl
 have e2:(rvs qs).getD j default=verRV qs[j].1 qs[j].2:=by
  unfold rvs; rw [List.getD_eq_getElem?_getD,List.getElem?_map,List.getElem?_eq_getElem hj]; rfl
 rw [e1,e2]
 exact weak_ver _ (ho _ (List.getElem_mem hj)) hb _
theorem right_ids {c:Cut} (h:Span.right c=true):∀ x ∈ c.v.pre,x.length≤1000:=by
 by_cases h1:c.kind=0∨c.kind=3
 ·rw [right_ends h1] at h
  rw [sameV_none h]; exact fun x hx=>by cases hx
 ·have h2:=right_kind h
  rw [right_ver (by omega),Bool.and_eq_true] at h
  have h3:=h.1
  unfold goodV at h3
  rw [Bool.and_eq_true,Bool.and_eq_true] at h3
  exact fun x hx=>Nat.le_trans ((goodFrom_bound c.v.pre 0 h3.2.1).2 x hx) (by omega)
def neB (l:List RSp):List (Int × RCut):=(l.drop 1).map fun s=>(6,s.lo)
theorem neB_next {l:List RSp} {k:Nat} (h0:0<k) (h:k<l.length):neB (l.take (k+1))=neB (l.take k) ++ [(6,(l.getD k default).lo)]:=by
 have e:(l.take k).length=k:=by rw [List.length_take]; omega
 unfold neB
 rw [take_next l default k h,List.drop_append_of_le_length (by omega),List.map_append]; rfl
theorem neB_part:∀ {l:List RSp},Chain (l.map RSp.sp)→Span.Norm (l.map RSp.sp)→rgs (neB l)=((l.map RSp.sp).take (l.length - 1)).map neOf
 | [],_,_=>rfl
 | [s],_,_=>rfl
 | s :: t :: r,hc,hn=>by
  have ih:=neB_part (l:=t :: r) hc.tail hn.tail
  have hp:=hc 0 (by simp)
  have r1:=(hn.rights s.sp (List.mem_cons_self ..)).2
  have r2:=(hn.rights t.sp (List.mem_cons_of_mem _ (List.mem_cons_self ..))).1
  have e:s.hi.v=t.lo.v:=(point_next (a:=s.hi.cut) (b:=t.lo.cut) r1 r2 hp).2.2
  have e2:rgs (neB (s :: t :: r))=.mk 6 t.lo.v [] :: rgs (neB (t :: r)):=rfl
  rw [e2,ih]
  show _=neOf s.sp :: ((t :: r).map RSp.sp |>.take ((t :: r).length - 1)).map neOf
  unfold neOf
  rw [show s.sp.hi.v=t.lo.v from e]
theorem piece_one {l:List Sp} (hn:Span.Norm l) (hc:Chain l) (h2:2≤l.length):isPoint (l.getD 0 default).lo (l.getD 0 default).hi=false:=by
 cases h:isPoint (l.getD 0 default).lo (l.getD 0 default).hi with
 | false=>rfl
 | true =>
  obtain ⟨s,hs⟩:=first_point hn (fun e=>by rw [e] at h2; simp at h2) hc h
  rw [hs] at h2; simp at h2
theorem pc_start (w:World) (s0 s9:RSp):∃ W,W=(((w.alloc ()).alloc s0.lo).alloc s9.hi)∧Hid (PcAt w W (w.heap.size+1) (w.heap.size+1+1) s0.lo s9.hi (.slice none 0 0) []):=by
 have b5:∀ (u:World) (o:Obj),Below u.heap.size u (u.alloc o):=fun u o=>(Below.refl _ _).alloc (Nat.le_refl _) o
 have h5:=(At6B.new (w.alloc ()) 41 s0.lo.kind s0.lo.v.a s0.lo.v.b s0.lo.v.c (.slice s0.lo.A s0.lo.v.pre.length s0.lo.c) (.slice s0.lo.B s0.lo.v.build.length s0.lo.d)).kept (b5 _ s9.hi) (by simp)
 have h6:=At6B.new ((w.alloc ()).alloc s0.lo) 41 s9.hi.kind s9.hi.v.a s9.hi.v.b s9.hi.v.c (.slice s9.hi.A s9.hi.v.pre.length s9.hi.c) (.slice s9.hi.B s9.hi.v.build.length s9.hi.d)
 rw [size_alloc] at h5
 rw [size_alloc,size_alloc] at h6
 refine ⟨_,rfl,PcAt.start h5 h6 ?_ ?_⟩
 ·exact ((RAt.new w 28 (zeroRV 0)).kept (b5 _ s0.lo) (by simp)).kept (b5 _ s9.hi) (by simp; omega)
 ·exact (((Below.refl _ _).alloc (Nat.le_refl _) _).alloc (by simp) _).alloc (by simp; omega) _
theorem refPiece_any (A:Option Addr) (p c:Nat) (l:List RSp) (w0 w:World) (hr:SpRow w A (p+1) l) (hp:p≤100000) (ho:∀ s ∈ l,LiesS w0 s) (hb0:Below w0.heap.size w0 w) (hN:Span.Norm (l.map RSp.sp)) (hc:Chain (l.map RSp.sp)) :
  Calls Tryz.prog 35 #[.slice A (p+1) c] w (WPost w (Off w0.heap.size w.heap.size) (pieceR (l.map RSp.sp))):=by
 have hln:l.length=p+1:=hr.1
 obtain ⟨b,o,rfl,hbw,hcell⟩:=hr.2.2 (by omega)
 have HCell:=Lib.hid hcell
 have HOwn:=Lib.hid ho
 have HB0:=Lib.hid hb0
 have HPc:Hid (pieceR (l.map RSp.sp)=if isPoint (l.getD 0 default).lo.cut (l.getD 0 default).hi.cut=true then .mk 5 (l.getD 0 default).lo.v [] else few 9 (parts (l.map RSp.sp))):=by
  unfold Hid pieceR; rw [sp_at]; rfl
 have HParts:Hid (rgs (loQ (l.getD 0 default).lo ++ hiQ (l.getD p default).hi ++ neB l)=parts (l.map RSp.sp)):=by
  have e:∀ a b c:List (Int × RCut),rgs (a ++ b ++ c)=rgs a ++ rgs b ++ rgs c:=fun a b c=>by unfold rgs; rw [List.map_append,List.map_append]
  unfold Hid
  rw [e,loQ_part,hiQ_part,neB_part hc hN]
  unfold parts lastOf
  rw [List.length_map,hln,Nat.add_sub_cancel,sp_at,sp_at]; rfl
 have hr0:=hN.rights _ (List.mem_map_of_mem (f:=RSp.sp) (getS_mem (show 0<l.length by omega)))
 have hr9:=hN.rights _ (List.mem_map_of_mem (f:=RSp.sp) (getS_mem (show p<l.length by omega)))
 have HI0:=Lib.hid (right_ids hr0.1)
 have HI9:=Lib.hid (right_ids hr9.2)
 have HL0:=Lib.hid (ho _ (getS_mem (show 0<l.length by omega)))
 have HL9:=Lib.hid (ho _ (getS_mem (show p<l.length by omega)))
 have HM:Hid (1≤p→isPoint (l.getD 0 default).lo.cut (l.getD 0 default).hi.cut=false):=fun h=>by
  have h2:=piece_one hN hc (by rw [List.length_map]; omega)
  rw [sp_at] at h2; exact h2
 have H09:Hid (p=0→l.getD p default=l.getD 0 default):=fun h=>by rw [h]
 have HE0:Hid (SpAt w b o (l.getD 0 default)):=fun i v hv=>by have:=hcell 0 (by omega) i v hv; rwa [Nat.zero_mul,Nat.add_zero] at this
 have HE9:Hid (SpAt w b (o+p * 12) (l.getD p default)):=fun i v hv=>hcell p (by omega) i v hv
 generalize l.getD 0 default=s0 at HPc HParts HI0 HL0 HM H09 HE0
 generalize l.getD p default=s9 at HParts HI9 HL9 H09 HE9
 obtain ⟨W,hW,HP⟩:=pc_start w s0 s9
 generalize hpp:pieceR (l.map RSp.sp)=pr at HPc
 have hw1:IntKind.i64.wrap (p:Int)=(p:Int):=by rw [IntKind.wrap_i64] <;> omega
 have hnn:¬ (p:Int)+1≤(p:Int):=by omega
 clear hr hcell ho hb0 hN hc hpp hr0 hr9
 obtain ⟨e0,e1,e2,e3,e4,e5,e6,e7,e8,e9,e10,e11⟩:=SpAt.cells HE0.out
 obtain ⟨f0,f1,f2,f3,f4,f5,f6,f7,f8,f9,f10,f11⟩:=SpAt.cells HE9.out
 go_enter Tryz.func35,Tryz.ntmps35
 go_upto_region 3 with (fail)
 rw [← hW]
 clear hW e0 e1 e2 e3 e4 e5 e6 e7 e8 e9 e10 e11 f0 f1 f2 f3 f4 f5 f6 f7 f8 f9 f10 f11 HE0 HE9
 go_cut [25] (fun v wx=>v=.bool (isPoint s0.lo.cut s0.hi.cut)∧PcAt w wx (w.heap.size+1) (w.heap.size+1+1) s0.lo s9.hi (.slice none 0 0) [])
 case first =>
  obtain ⟨_,_,a0,a1,a2,a3,a4,a5⟩:=HP.out.a5
  obtain ⟨_,_,d0,d1,d2,d3,d4,d5⟩:=HP.out.a6
  have HBW:=Lib.hid (HB0.out.trans (HP.out.bel.mono HB0.out.size))
  by_cases hp0:p=0
  ·have q1:(((p:Int)+1) == 1)=true:=by simp [hp0]
   have HS:=Lib.hid (H09.out hp0)
   clear hp0
   go_wp2_with fail
   refine (refPoint_any s0.lo s9.hi W (HL0.out.lo.kept HBW.out) (HL9.out.hi.kept HBW.out) HI0.out HI9.out).mono ?_
   rintro e W2 ⟨rfl,hb⟩
   have HP2:=Lib.hid (HP.out.kept hb)
   clear hb a0 a1 a2 a3 a4 a5 d0 d1 d2 d3 d4 d5
   go_wp2
   go_meet
   exact ⟨by rw [HS.out],HP2.out⟩
  ·have q1:(((p:Int)+1) == 1)=false:=beq_eq_false_iff_ne.2 (by omega)
   have HF:=Lib.hid (HM.out (by omega))
   clear hp0
   go_wp2
   go_meet
   exact ⟨by rw [HF.out],HP.out⟩
 case rest =>
 obtain ⟨rfl,hP2⟩:=hcut
 have HP2:=Lib.hid hP2
 clear hP2 HP HM H09 HI0 HI9
 cases hpt:isPoint s0.lo.cut s0.hi.cut with
 | true =>
  obtain ⟨_,_,a0,a1,a2,a3,a4,a5⟩:=HP2.out.a5
  obtain rfl:pr=.mk 5 s0.lo.v []:=by rw [HPc.out,if_pos hpt]
  have HK9:=Lib.hid (Range.setR_at (x:=(verRV 5 s0.lo)) HP2.out.res)
  have HB9:Hid (Below w.heap.size w (Range.setR wc w.heap.size (verRV 5 s0.lo))):=HP2.out.bel.trans (Range.setR_below w.heap.size (Nat.le_refl _) (verRV 5 s0.lo))
  have HS9:Hid (Range.Weak (Range.setR wc w.heap.size (verRV 5 s0.lo)) (Off w0.heap.size w.heap.size) (.mk 5 s0.lo.v []) (verRV 5 s0.lo)):=weak_ver _ HL0.out.lo (HB0.out.trans (HB9.out.mono HB0.out.size)) 5
  obtain ⟨_,hfz,r0,r1,r2,r3,r4,r5,r6⟩:=HP2.out.res
  clear hpt HPc
  go_wp2
  change bodyPost _ _ _ _ _ (Range.setR wc w.heap.size (verRV 5 s0.lo))
  generalize Range.setR wc w.heap.size (verRV 5 s0.lo)=W9 at HK9 HB9 HS9 ⊢
  obtain ⟨_,_,z0,z1,z2,z3,z4,z5,z6⟩:=HK9.out
  exact bodyPost_ret (v:=(verRV 5 s0.lo).agg) (by unfold RV.agg; simp [results,Tryz.results35,go_sem,z0,z1,z2,z3,z4,z5,z6]) rfl ⟨(verRV 5 s0.lo),rfl,HS9.out,HB9.out⟩
 | false =>
 have HPr:Hid (pr=few 9 (parts (l.map RSp.sp))):=by unfold Hid; rw [HPc.out,hpt]; rfl
 clear hpt HPc
 obtain ⟨_,_,a0,a1,a2,a3,a4,a5⟩:=HP2.out.a5
 go_upto_region 6 with (fail)
 go_cut [36] (fun v wx=>v=.bool (decide (s0.lo.kind=1∨s0.lo.kind=2))∧wx=wc)
 case first =>
  by_cases h1:s0.lo.kind=1
  ·have q1:(s0.lo.kind == 1)=true:=beq_iff_eq.2 h1
   have HD:=Lib.hid (decide_eq_true (p:=s0.lo.kind=1∨s0.lo.kind=2) (.inl h1))
   clear h1
   go_wp2
   go_meet
   exact ⟨by rw [HD.out],rfl⟩
  ·have q1:(s0.lo.kind == 1)=false:=beq_eq_false_iff_ne.2 h1
   by_cases h2:s0.lo.kind=2
   ·have q2:(s0.lo.kind == 2)=true:=beq_iff_eq.2 h2
    have HD:=Lib.hid (decide_eq_true (p:=s0.lo.kind=1∨s0.lo.kind=2) (.inr h2))
    clear h1 h2
    go_wp2
    go_meet
    exact ⟨by rw [HD.out],rfl⟩
   ·have q2:(s0.lo.kind == 2)=false:=beq_eq_false_iff_ne.2 h2
    have HD:=Lib.hid (decide_eq_false (p:=s0.lo.kind=1∨s0.lo.kind=2) (by omega))
    clear h1 h2
    go_wp2
    go_meet
    exact ⟨by rw [HD.out],rfl⟩
 case rest =>
 obtain ⟨rfl,rfl⟩:=hcut
 go_upto_if 36 with (fail)
 go_cut [5] (fun v5 wx=>PcAt w wx (w.heap.size+1) (w.heap.size+1+1) s0.lo s9.hi v5 (loQ s0.lo))
 case first =>
  cases hd:decide (s0.lo.kind=1∨s0.lo.kind=2) with
  | true =>
   have HQ:Hid (loQ s0.lo=[(s0.lo.kind,s0.lo)]):=by
    unfold Hid loQ
    rcases of_decide_eq_true hd with h | h
    ·rw [if_pos h,h]
    ·rw [if_neg (by omega),if_pos h,h]
   clear hd
   go_wp2_with (first
    | (at_builtin; have hk2:Hid (PcAt w (wc.alloc (.cells (verRV s0.lo.kind s0.lo).vals.toArray 28)) (w.heap.size+1) (w.heap.size+1+1) s0.lo s9.hi _ ([])):=HP2.out.kept ((Below.refl _ _).alloc (Nat.le_refl _) _); refine wpList_append_rg _ rfl _ _ rfl (w.heap.size+1) _ _ (rvs ([])) rfl hk2.out.own ⟨wc.heap.size,0,none⟩ (verRV s0.lo.kind s0.lo) rfl (news_new wc (verRV s0.lo.kind s0.lo).vals 28) (by simp) (by have:=HP2.out.res.1; simp; omega) ?_; intro v3 W3 ho hg hat; have HN:=Lib.hid (hk2.out.more s0.lo.kind s0.lo ho hg hat); clear ho hg hat hk2)
    | fail)
   go_meet
   rw [HQ.out]
   exact HN.out
  | false =>
   have HQ:Hid (loQ s0.lo=[]):=by
    have h:=of_decide_eq_false hd
    unfold Hid loQ
    rw [if_neg (fun e=>h (.inl e)),if_neg (fun e=>h (.inr e))]
   clear hd
   go_wp2
   go_meet
   rw [HQ.out]
   exact HP2.out
 case rest =>
 have HP3:=Lib.hid hcut
 clear hcut a0 a1 a2 a3 a4 a5 HP2
 obtain ⟨_,_,d0,d1,d2,d3,d4,d5⟩:=HP3.out.a6
 go_upto_if 47 with (fail)
 go_cut [5] (fun v5 wx=>PcAt w wx (w.heap.size+1) (w.heap.size+1+1) s0.lo s9.hi v5 (loQ s0.lo ++ if s9.hi.kind=1 then [(4,s9.hi)] else []))
 case first =>
  by_cases h1:s9.hi.kind=1
  ·have q1:(s9.hi.kind == 1)=true:=beq_iff_eq.2 h1
   have HQ:Hid ((if s9.hi.kind=1 then [((4:Int),s9.hi)] else [])=[(4,s9.hi)]):=if_pos h1
   clear h1
   go_wp2_with (first
    | (at_builtin; have hk2:Hid (PcAt w (wc.alloc (.cells (verRV 4 s9.hi).vals.toArray 28)) (w.heap.size+1) (w.heap.size+1+1) s0.lo s9.hi _ (loQ s0.lo)):=HP3.out.kept ((Below.refl _ _).alloc (Nat.le_refl _) _); refine wpList_append_rg _ rfl _ _ rfl (w.heap.size+1) _ _ (rvs (loQ s0.lo)) rfl hk2.out.own ⟨wc.heap.size,0,none⟩ (verRV 4 s9.hi) rfl (news_new wc (verRV 4 s9.hi).vals 28) (by have:=loQ_len s0.lo; omega) (by have:=HP3.out.res.1; simp; omega) ?_; intro v3 W3 ho hg hat; have HN:=Lib.hid (hk2.out.more 4 s9.hi ho hg hat); clear ho hg hat hk2)
    | fail)
   go_meet
   rw [HQ.out]
   exact HN.out
  ·have q1:(s9.hi.kind == 1)=false:=beq_eq_false_iff_ne.2 h1
   have HQ:Hid ((if s9.hi.kind=1 then [((4:Int),s9.hi)] else [])=[]):=if_neg h1
   clear h1
   go_wp2
   go_meet
   rw [HQ.out,List.append_nil]
   exact HP3.out
 case rest =>
 have HP4:=Lib.hid hcut
 clear hcut d0 d1 d2 d3 d4 d5 HP3
 obtain ⟨_,_,d0,d1,d2,d3,d4,d5⟩:=HP4.out.a6
 go_upto_if 56 with (fail)
 go_cut [5] (fun v5 wx=>PcAt w wx (w.heap.size+1) (w.heap.size+1+1) s0.lo s9.hi v5 (loQ s0.lo ++ hiQ s9.hi))
 case first =>
  by_cases h2:s9.hi.kind=2
  ·have q2:(s9.hi.kind == 2)=true:=beq_iff_eq.2 h2
   have HQ:Hid (hiQ s9.hi=[(3,s9.hi)]):=by unfold Hid hiQ; rw [if_neg (by omega),if_pos h2]
   have HQ2:Hid ((loQ s0.lo ++ if s9.hi.kind=1 then [((4:Int),s9.hi)] else [])=loQ s0.lo):=by unfold Hid; rw [if_neg (by omega),List.append_nil]
   have HP5:=HP4
   rw [HQ2.out] at HP5
   clear h2 HP4
   go_wp2_with (first
    | (at_builtin; have hk2:Hid (PcAt w (wc.alloc (.cells (verRV 3 s9.hi).vals.toArray 28)) (w.heap.size+1) (w.heap.size+1+1) s0.lo s9.hi _ (loQ s0.lo)):=HP5.out.kept ((Below.refl _ _).alloc (Nat.le_refl _) _); refine wpList_append_rg _ rfl _ _ rfl (w.heap.size+1) _ _ (rvs (loQ s0.lo)) rfl hk2.out.own ⟨wc.heap.size,0,none⟩ (verRV 3 s9.hi) rfl (news_new wc (verRV 3 s9.hi).vals 28) (by have:=loQ_len s0.lo; omega) (by have:=HP5.out.res.1; simp; omega) ?_; intro v3 W3 ho hg hat; have HN:=Lib.hid (hk2.out.more 3 s9.hi ho hg hat); clear ho hg hat hk2)
    | fail)
   go_meet
   rw [HQ.out]
   exact HN.out
  ·have q2:(s9.hi.kind == 2)=false:=beq_eq_false_iff_ne.2 h2
   have HQ:Hid ((if s9.hi.kind=1 then [((4:Int),s9.hi)] else [])=hiQ s9.hi):=by unfold Hid hiQ; rw [if_neg h2]
   have HP5:=HP4
   rw [HQ.out] at HP5
   clear h2 HP4
   go_wp2
   go_meet
   exact HP5.out
 case rest =>
 have HP5:=Lib.hid hcut
 clear hcut d0 d1 d2 d3 d4 d5 HP4
 go_wp2
 go_loopw [5,6] (fun v5 iv W'=>∃ k:Nat,1≤k∧k≤p+1∧iv=.int .i64 k∧Hid (PcAt w W' (w.heap.size+1) (w.heap.size+1+1) s0.lo s9.hi v5 (loQ s0.lo ++ hiQ s9.hi ++ neB (l.take k)))) (fun _ iv _=>p+1 - (intOf iv).toNat)
 case atStart=>exact ⟨1,Nat.le_refl _,by omega,rfl,by
  have h:=HP5.out
  have e:neB (l.take 1)=[]:=by
   unfold neB
   rw [List.drop_eq_nil_of_le (by rw [List.length_take]; omega)]; rfl
  unfold Hid
  rw [e,List.append_nil]; exact h⟩
 case round =>
  obtain ⟨k,hk1,hk,rfl,HQ⟩:=hrel
  have hql:(loQ s0.lo ++ hiQ s9.hi ++ neB (l.take k)).length≤1000000:=by
   have h1:=loQ_len s0.lo
   have h2:=hiQ_len s9.hi
   rw [List.length_append,List.length_append]
   unfold neB
   rw [List.length_map,List.length_drop,List.length_take]; omega
  by_cases hlt:k<p+1
  ·have HS:=Lib.hid (HCell.out k hlt)
   have HNe:=Lib.hid (neB_next hk1 (show k<l.length by omega))
   have HSk:Hid (SpAt wr b (o+k * 12) (l.getD k default)):=fun i v hv=>(HQ.out.bel.cell (p:=⟨b,o+k * 12+i,none⟩) hbw).trans (HS.out i v hv)
   obtain ⟨s,hs⟩:∃ s,l.getD k default=s:=⟨_,rfl⟩
   rw [hs] at HSk HNe
   obtain ⟨e0,e1,e2,e3,e4,e5,e6,e7,e8,e9,e10,e11⟩:=SpAt.cells HSk.out
   have hlti:(k:Int)<(p:Int)+1:=by omega
   clear HS hs
   go_wp2_with (first
    | (at_builtin; have hk2:Hid (PcAt w (wr.alloc (.cells (verRV 6 s.lo).vals.toArray 28)) (w.heap.size+1) (w.heap.size+1+1) s0.lo s9.hi _ (loQ s0.lo ++ hiQ s9.hi ++ neB (l.take k))):=HQ.out.kept ((Below.refl _ _).alloc (Nat.le_refl _) _); refine wpList_append_rg _ rfl _ _ rfl (w.heap.size+1) _ _ (rvs (loQ s0.lo ++ hiQ s9.hi ++ neB (l.take k))) rfl hk2.out.own ⟨wr.heap.size,0,none⟩ (verRV 6 s.lo) rfl (news_new wr (verRV 6 s.lo).vals 28) (by omega) (by have:=HQ.out.res.1; simp; omega) ?_; intro v3 W3 ho hg hat; have HN:=Lib.hid (hk2.out.more 6 s.lo ho hg hat); clear ho hg hat hk2)
    | fail)
   exact ⟨⟨k+1,by omega,by omega,by go_num,by have h:=HN.out; rw [List.append_assoc,← HNe.out] at h; exact h⟩,by simp [intOf]; omega⟩
  ·obtain rfl:k=p+1:=by omega
   have hlt2:¬ ((p:Int)+1<(p:Int)+1):=Int.lt_irrefl _
   have HBw:=Lib.hid (HB0.out.trans (HQ.out.bel.mono HB0.out.size))
   have e:l.take (p+1)=l:=by rw [← hln]; exact List.take_length
   rw [e] at HQ hql
   have hex:∃ L e n9,u5=.slice L n9 e∧WRow wr (Off w0.heap.size w.heap.size) L n9 (parts (l.map RSp.sp))∧n9≤1000000:=by
    obtain ⟨L,e,h1,h2⟩:=HQ.out.wrow HBw.out (fun q hq=>by
     rcases List.mem_append.1 hq with hq | hq
     ·rcases List.mem_append.1 hq with hq | hq
      ·rw [loQ_mem hq]; exact HL0.out.lo
      ·rw [hiQ_mem hq]; exact HL9.out.hi
     ·obtain ⟨s,hs,rfl⟩:=List.mem_map.1 hq
      exact (HOwn.out s (List.mem_of_mem_drop hs)).lo)
    rw [HParts.out] at h2
    exact ⟨L,e,_,h1,h2,hql⟩
   have HRes:=Lib.hid HQ.out.res
   have HBel:=Lib.hid HQ.out.bel
   obtain ⟨L,e,n9,rfl,hrow,hn9⟩:=hex
   have HRw:=Lib.hid hrow
   generalize parts (l.map RSp.sp)=ps at HRw HPr
   clear hrow hlt HQ hql HOwn HParts HP5 HCell hk hk1
   go_wp2_with fail
   refine (refFew_any 9 L n9 e ps (Off w0.heap.size w.heap.size) wr HRw.out hn9).mono ?_
   rintro e4 W4 ⟨x,he4,hx,hb⟩
   unfold RV.agg at he4
   subst he4
   have HR4:=Lib.hid (HRes.out.kept hb HRes.out.1)
   have HB4:=Lib.hid (HBel.out.trans (hb.mono HBel.out.size))
   have HK9:=Lib.hid (Range.setR_at (x:=x) HR4.out)
   have HB9:Hid (Below w.heap.size w (Range.setR W4 w.heap.size x)):=HB4.out.trans (Range.setR_below w.heap.size (Nat.le_refl _) x)
   have HS9:Hid (Range.Weak (Range.setR W4 w.heap.size x) (Off w0.heap.size w.heap.size) pr x):=by
    unfold Hid
    rw [HPr.out]
    exact hx.keep (Range.setR_keep (fun h=>by have:=HB0.out.size; rcases h with h | h <;> omega) x)
   obtain ⟨_,hfz,r0,r1,r2,r3,r4,r5,r6⟩:=HR4.out
   clear hb hx HRw HR4 HB4 HRes HBel
   go_wp2
   change bodyPost _ _ _ _ _ (Range.setR W4 w.heap.size x)
   generalize Range.setR W4 w.heap.size x=W9 at HK9 HB9 HS9 ⊢
   obtain ⟨_,_,z0,z1,z2,z3,z4,z5,z6⟩:=HK9.out
   exact bodyPost_ret (v:=x.agg) (by unfold RV.agg; simp [results,Tryz.results35,go_sem,z0,z1,z2,z3,z4,z5,z6]) rfl ⟨x,rfl,HS9.out,HB9.out⟩
end Go.Proofs.YtgfbflnhjpbceaaGreatDoor.Nrm
namespace Go.Proofs.YtgfbflnhjpbceaaGreatDoor.Nrm
open Go.RowKit Num Ident Semver Prec Span
open Range (Rng noRng goodR goodL fits RV RAt RgRow LtB Elems wt wtL wtL_len wt_mem KeepS zeroRV rgInfo rv_one rv_len own_kind)
theorem op_append_rg (w:World) {o:Oper} {a:Act} {K:Act→World→Prop} {Q:Exit→Act→World→Prop} (s x:Operand)
  (ho:o.op=.call { callee:=.builtin .append,args:=#[s,x],argTypes:=#[26,26] })
  (base:Nat) (v:Value) (n:Nat) (xs:List RV) (hs:a.eval s=v) (hown:w.ownsRow base 28 7 v n (xs.flatMap RV.vals))
  (ad:Addr) (y:RV) (hx:a.eval x=.slice (some ad) 1 1) (hnews:∀ j u,y.vals[j]?=some u→w.cell? (ad.add j)=some u) (hb:n≤5000000) (hbase:base≤w.heap.size)
  (h:∀ v' w',w'.ownsRow base 28 7 v' (n+1) ((xs ++ [y]).flatMap RV.vals)→w.grownBy w' v.ownBlock→(v'.ownBlock=v.ownBlock∨v'.ownBlock=some w.heap.size)→K (a.put o.dst v') w'):Oper.wp Tryz.prog o a w K Q:=by
 obtain ⟨i,hi,hz,hsz,hby⟩:=info_parts rgInfo
 obtain ⟨v',w',hr,h2,h3,h4,h5⟩:=run_append_own_at (P:=Tryz.prog) w base 26 o.type 28 i _ 7 104 Tryz.underlying26 hi hz hsz hby rfl (by omega) v n _ hown ad 1 1 y.vals rfl hnews (rv_one y) (by unfold maxLen; omega) (by omega) hbase
 unfold Oper.wp execOp
 simp only [ho,resolve,invoke,builtin,Sem.run_bind,Sem.run_pure,Result.andThen_ok,List.map_toArray,List.map_cons,List.map_nil,hs,hx,hr]
 exact h v' w' (by rw [List.flatMap_append]; simpa using h2) h3 h5
structure PsAt (w:World) (B n:Nat) (L:List Sp) (v:Value) (done:List Rng) (xs:List RV) (W:World):Prop where
 cx:CxAt W w.heap.size n (ends L n)
 own:W.ownsRow (w.heap.size+1) 28 7 v done.length (xs.flatMap RV.vals)
 len:xs.length=done.length
 lies:∀ j,j<done.length→Range.Lies W (Elems B v) (done.getD j noRng) (xs.getD j default)
 bel:Below w.heap.size w W
theorem PsAt.kept {w:World} {B n:Nat} {L:List Sp} {v:Value} {done:List Rng} {xs:List RV} {W W':World} (h:PsAt w B n L v done xs W) (hb:Below W.heap.size W W'):PsAt w B n L v done xs W' :=
 ⟨h.cx.kept hb,own_below h.own hb,h.len,fun j hj=>(h.lies j hj).keep (KeepS.of_below hb),h.bel.trans (hb.mono h.bel.size)⟩
theorem strs_elems {W:World} {b0 B k:Nat} {v:Value} {ys:List Value} (h:W.ownsRow b0 28 7 v k ys) {g:Nat} (hs:Strs W B g):Elems B v g:=by
 refine ⟨hs.1,fun e=>?_⟩
 obtain ⟨c,hc⟩:=own_kind h g e.symm
 have hlt:=(h.lt g e.symm).2
 rcases hs.2 with h1 | ⟨c2,h1⟩
 ·omega
 ·rw [hc] at h1
  injection h1 with h1
  injection h1 with _ h2 _
  exact absurd h2 (by decide)
theorem CxAt.grown {w w':World} {row:Option Nat} {g n:Nat} {E:Nat→Value} (h:CxAt w g n E) (hg:w.grownBy w' row) (hne:some g≠row):CxAt w' g n E:=by
 have k:=hg.block g h.1 hne
 exact ⟨Nat.lt_of_lt_of_le h.1 hg.size,fun o=>(World.frozen?_of_block (w:=w) (a:=⟨g,o,none⟩) k).trans (h.2.1 o),fun j hj=>(World.cell?_of_block (w:=w) (a:=⟨g,j,none⟩) k).trans (h.2.2 j hj)⟩
theorem PsAt.more {w:World} {B n:Nat} {L:List Sp} {v v':Value} {done:List Rng} {xs:List RV} {W W':World} {r:Rng} {x:RV} (h:PsAt w B n L v done xs W) (ho:W'.ownsRow (w.heap.size+1) 28 7 v' (done.length+1) ((xs ++ [x]).flatMap RV.vals)) (hg:W.grownBy W' v.ownBlock)
  (hat:v'.ownBlock=v.ownBlock∨v'.ownBlock=some W.heap.size) (hx:Range.Lies W (Elems B v) r x):PsAt w B n L v' (done ++ [r]) (xs ++ [x]) W':=by
 have hel:∀ (q:Rng) (y:RV),Range.Lies W (Elems B v) q y→Range.Lies W' (Elems B v') q y:=fun q y hq=>by
  have h1:Range.Lies W (fun g=>Elems B v g∧Elems B v' g) q y:=hq.mono fun g hS hlt=>⟨hS,hS.1,by
   rcases hat with e | e
   ·rw [e]; exact hS.2
   ·rw [e]; intro h; injection h with h; omega⟩
  exact (h1.keep (KeepS.grown hg fun g hS=>hS.1.2)).mono fun g hS _=>hS.2
 refine ⟨h.cx.grown hg (fun e=>by have:=(h.own.lt _ e.symm).1; omega),by rw [List.length_append]; exact ho,by rw [List.length_append,List.length_append,h.len]; rfl,fun k hk=>?_,h.bel.trans ((Below.refl _ _).grown hg h.bel.size fun g e=>by have:=(h.own.lt _ e).1; omega)⟩
 rw [List.length_append,List.length_singleton] at hk
 by_cases hlt:k<done.length
 ·have e1:(done ++ [r]).getD k noRng=done.getD k noRng:=by simp [List.getD,List.getElem?_append_left hlt]
  have e2:(xs ++ [x]).getD k default=xs.getD k default:=by simp [List.getD,List.getElem?_append_left (show k<xs.length by rw [h.len]; exact hlt)]
  rw [e1,e2]; exact hel _ _ (h.lies k hlt)
 ·have ek:k=done.length:=by omega
  have e1:(done ++ [r]).getD k noRng=r:=by rw [ek]; simp [List.getD]
  have e2:(xs ++ [x]).getD k default=x:=by rw [ek,← h.len]; simp [List.getD]
  rw [e1,e2]; exact hel _ _ hx
theorem PsAt.row {w:World} {B n:Nat} {L:List Sp} {v:Value} {done:List Rng} {xs:List RV} {W:World} (h:PsAt w B n L v done xs W) (hB:B≤w.heap.size):∃ A e,v=.slice A done.length e∧done.length≤e∧(A=none→e=0)∧RgRow W (fun g=>B≤g) A done.length done :=
 Range.RgRow.of_own h.own (fun g hg=>by omega) h.len rfl fun j hj=>(h.lies j hj).mono fun _ hS _=>hS.1
theorem ends_at {W:World} {g n:Nat} {L:List Sp} (h:CxAt W g n (ends L n)) {j:Nat} (hj:j<n):W.cell? ⟨g,j,none⟩=some (.complex .f64 (fb (lk L j)) (fb (pk L (j+1)))):=by
 rw [h.2.2 j hj]; unfold ends; rw [if_pos hj]
/-! Rows, and what is left of them. -/
theorem PsAt.bel_le {w:World} {B n:Nat} {L:List Sp} {v:Value} {done:List Rng} {xs:List RV} {W:World} (h:PsAt w B n L v done xs W):w.heap.size+1≤W.heap.size:=h.cx.1
def rowOf (L:List Sp) (f p:Nat):List Sp:=(L.drop f).take (p+1)
theorem rowOf_len {L:List Sp} {f p:Nat} (h:f+p<L.length):(rowOf L f p).length=p+1:=by unfold rowOf; rw [List.length_take,List.length_drop]; omega
theorem rowOf_at {L:List Sp} {f p j:Nat} (hj:j≤p):(rowOf L f p).getD j default=L.getD (f+j) default:=by
 unfold rowOf
 simp only [List.getD_eq_getElem?_getD]
 rw [List.getElem?_take,if_pos (by omega),List.getElem?_drop]
theorem rowOf_last {L:List Sp} {f p:Nat} (h:f+p<L.length):lastOf (rowOf L f p)=L.getD (f+p) default:=by
 unfold lastOf; rw [rowOf_len h,Nat.add_sub_cancel,rowOf_at (Nat.le_refl p)]
theorem rowOf_next {L:List Sp} {f p:Nat} (h:f+p+1<L.length):rowOf L f (p+1)=rowOf L f p ++ [L.getD (f+p+1) default]:=by
 unfold rowOf
 rw [take_next (L.drop f) default (p+1) (by rw [List.length_drop]; omega)]
 congr 2
 simp only [List.getD_eq_getElem?_getD]
 rw [List.getElem?_drop,Nat.add_assoc]
theorem drop_next {L:List Sp} {t:Nat} (h:t<L.length):L.drop t=L.getD t default :: L.drop (t+1):=by
 rw [List.drop_eq_getElem_cons h]; simp [List.getD,List.getElem?_eq_getElem h]
theorem rowOf_one {L:List Sp} {f:Nat} (h:f<L.length):rowOf L f 0=[L.getD f default]:=by
 unfold rowOf
 rw [drop_next h]; rfl
theorem rowOf_norm {L:List Sp} (h:Span.Norm L) (f p:Nat):Span.Norm (rowOf L f p):=by
 have h1:Span.Norm (L.drop f):=by
  have:=h
  rw [← List.take_append_drop f L] at this
  exact (norm_append this).2
 have h2:=h1
 rw [← List.take_append_drop (p+1) (L.drop f)] at h2
 exact (norm_append h2).1
def Half (L:List Sp) (f p:Nat) (done:List Rng):Prop:=Chain (rowOf L f p)∧done ++ (grp (rowOf L f p) (L.drop (f+p+1))).map pieceR=piecesR L
theorem half_start {L:List Sp} {t:Nat} {done:List Rng} (h:done ++ piecesR (L.drop t)=piecesR L) (ht:t<L.length):Half L t 0 done:=by
 unfold Half
 rw [rowOf_one ht]
 refine ⟨Chain.one _,?_⟩
 rw [drop_next ht] at h
 exact h
theorem half_more {L:List Sp} {f p:Nat} {done:List Rng} (h:Half L f p done) (ht:f+p+1<L.length) (hl:isPoint (L.getD (f+p) default).hi (L.getD (f+p+1) default).lo=true):Half L f (p+1) done:=by
 have hlast:=rowOf_last (L:=L) (f:=f) (p:=p) (by omega)
 have hlink:isPoint (lastOf (rowOf L f p)).hi (L.getD (f+p+1) default).lo=true:=by rw [hlast]; exact hl
 have hne:rowOf L f p≠[]:=by intro e; have:=rowOf_len (L:=L) (f:=f) (p:=p) (by omega); rw [e] at this; simp at this
 refine ⟨by rw [rowOf_next ht]; exact h.1.snoc hne hlink,?_⟩
 have h2:=h.2
 rw [drop_next ht,grp,if_pos hlink,← rowOf_next ht] at h2
 exact h2
theorem half_shut {L:List Sp} {f p:Nat} {done:List Rng} (h:Half L f p done) (ht:f+p<L.length) (hl:f+p+1<L.length→isPoint (L.getD (f+p) default).hi (L.getD (f+p+1) default).lo=false):(done ++ [pieceR (rowOf L f p)]) ++ piecesR (L.drop (f+p+1))=piecesR L:=by
 have h2:=h.2
 by_cases hlt:f+p+1<L.length
 ·have hlast:=rowOf_last (L:=L) (f:=f) (p:=p) (by omega)
  rw [drop_next hlt,grp,if_neg (by rw [hlast,hl hlt]; simp),List.map_cons] at h2
  rw [drop_next hlt,List.append_assoc]
  exact h2
 ·rw [List.drop_eq_nil_of_le (by omega),grp] at h2
  rw [List.drop_eq_nil_of_le (by omega)]
  show (done ++ [pieceR (rowOf L f p)]) ++ []=_
  rw [List.append_nil]; exact h2
theorem SpRow.sub {w:World} {A:Option Addr} {n:Nat} {l:List RSp} (h:SpRow w A n l) {b o f p:Nat} (hA:A=some ⟨b,o,none⟩) (hf:f+p<n):SpRow w (some ⟨b,o+f * 12,none⟩) (p+1) ((l.drop f).take (p+1)):=by
 have hl:=h.1
 refine ⟨by rw [List.length_take,List.length_drop]; omega,fun s hs=>h.2.1 s (List.mem_of_mem_drop (List.mem_of_mem_take hs)),fun _=>?_⟩
 obtain ⟨b',o',e,hb,hc⟩:=h.2.2 (by omega)
 rw [hA] at e
 injection e with e
 injection e with e1 e2
 subst e1; subst e2
 refine ⟨b,o+f * 12,rfl,hb,fun j hj i v hv=>?_⟩
 have e3:((l.drop f).take (p+1)).getD j default=l.getD (f+j) default:=by
  simp only [List.getD_eq_getElem?_getD]
  rw [List.getElem?_take,if_pos hj,List.getElem?_drop]
 rw [e3] at hv
 have:=hc (f+j) (by omega) i v hv
 rw [Nat.add_assoc o,← Nat.add_mul]; exact this
end Go.Proofs.YtgfbflnhjpbceaaGreatDoor.Nrm
