/-
  What the theorem of the last text needs of these: NmPiece. Conditions: as each theorem states.
-/
import Derived.Test.YtgfbflnhjpbceaaGreatDoorSetB1
import Derived.Test.YtgfbflnhjpbceaaGreatDoorSetB30
import Derived.Test.YtgfbflnhjpbceaaGreatDoorSetB34
import Derived.Deep.CutBlock
import Derived.Deep.DeepCutAuto
import Derived.Deep.RegionHeld3
set_option maxRecDepth 100000
set_option maxHeartbeats 25600000
namespace Go.Proofs.YtgfbflnhjpbceaaGreatDoor.Nrm
open Go.RowKit Num Ident Semver Prec Span
open Range (Rng noRng goodR goodL fits RV RAt RgRow LtB wt wtL wtL_len wt_mem KeepS zeroRV wpList_append_rg)
theorem loQ_len (r:RCut):(loQ r).length≤1:=by
 unfold loQ
 split
 ·exact Nat.le_refl _
 ·split
  ·exact Nat.le_refl _
  ·exact Nat.zero_le _
theorem hiQ_len (r:RCut):(hiQ r).length≤1:=by
 unfold hiQ
 split
 ·exact Nat.le_refl _
 ·split
  ·exact Nat.le_refl _
  ·exact Nat.zero_le _
theorem neQ_next {l:List RSp} {k:Nat} (h:k<l.length):neQ (l.take (k+1))=neQ (l.take k) ++ [(6,(l.getD k default).hi)]:=by
 unfold neQ; rw [take_next l default k h,List.map_append]; rfl
theorem piece_any (A:Option Addr) (p c:Nat) (l:List RSp) (f g:Nat) (B:Nat) (w:World) (hr:SpRow w A (p+1) l) (hp:p≤100000) (hcp:p+1≤c) (ho:∀ s ∈ l,OwnsS w B s) (hB:B≤w.heap.size) (hN:Span.Norm (l.map RSp.sp)) (hc:Chain (l.map RSp.sp))
  (hfg:(FloatKind.f64.format.order f g == some .eq)=isPoint (l.getD 0 default).lo.cut (l.getD 0 default).hi.cut) :
  Calls Tryz.prog 76 #[.slice A (p+1) c,.complex .f64 f g] w (RngPost w (Strs w B) (pieceR (l.map RSp.sp))):=by
 have hln:l.length=p+1:=hr.1
 obtain ⟨b,o,rfl,hbw,hcell⟩:=hr.2.2 (by omega)
 have HCell:=Lib.hid hcell
 have HOwn:=Lib.hid (allQ_own hln ho)
 have HGood:=Lib.hid (allQ_good hln hN hc)
 have HParts:=Lib.hid (allQ_parts hln)
 have HRow:=Lib.hid hr
 have HPc:Hid (pieceR (l.map RSp.sp)=if isPoint (l.getD 0 default).lo.cut (l.getD 0 default).hi.cut=true then .mk 5 (l.getD 0 default).lo.v [] else few 9 (parts (l.map RSp.sp))):=by
  unfold Hid pieceR; rw [sp_at]; rfl
 have HFirst:=Lib.hid (ho _ (getS_mem (show 0<l.length by omega))).1
 have HFV:Hid (isPoint (l.getD 0 default).lo.cut (l.getD 0 default).hi.cut=true→goodV (l.getD 0 default).lo.v=true):=fun h=>by
  have hc0:=hN.cnt _ (List.mem_map_of_mem (f:=RSp.sp) (getS_mem (show 0<l.length by omega)))
  exact ver_good ((cnt_iff _).1 hc0).1 (.inl ((isPoint_iff _ _).1 h).1)
 have HAllQ:Hid (allQ l p=loQ (l.getD 0 default).lo ++ hiQ (l.getD p default).hi ++ neQ (l.take p)):=rfl
 have HE0:Hid (SpAt w b o (l.getD 0 default)):=fun i v hv=>by have:=hcell 0 (by omega) i v hv; rwa [Nat.zero_mul,Nat.add_zero] at this
 have HE9:Hid (SpAt w b (o+p * 12) (l.getD p default)):=fun i v hv=>hcell p (by omega) i v hv
 generalize l.getD 0 default=s0 at HPc HFirst HFV HAllQ HE0 hfg
 generalize l.getD p default=s9 at HAllQ HE9
 have HB:Hid (Below w.heap.size w (w.alloc ())):=(Below.refl _ _).alloc (Nat.le_refl _) _
 have HR:Hid (RAt (w.alloc ()) w.heap.size (zeroRV 0)):=RAt.new w _ (zeroRV 0)
 generalize hpp:pieceR (l.map RSp.sp)=pr at HPc
 have HPt:=Lib.hid hfg
 clear hr hcell ho hN hc hpp hfg
 go_enter Tryz.func76,Tryz.ntmps76
 go_upto_region 1 with (fail)
 generalize (w.alloc ())=W at HB HR ⊢
 go_cut [5,6] (fun v5 v6 wx=>∃ p5 p6,v5=.pointer (some ⟨p5,0,none⟩)∧v6=.pointer (some ⟨p6,0,none⟩)∧PcAt w wx p5 p6 s0.lo s9.hi (.slice none 0 0) [])
 case first =>
  replace HB:Hid (Below w.heap.size w W.drew):=HB.out.drew
  replace HR:Hid (RAt W.drew w.heap.size (zeroRV 0)):=HR.out
  have hw1:IntKind.i64.wrap (p:Int)=(p:Int):=by rw [IntKind.wrap_i64] <;> omega
  have hnn:¬ (p:Int)+1≤(p:Int):=by omega
  have HS0:Hid (SpAt W.drew b o s0):=fun i v hv=>(HB.out.cell (p:=⟨b,o+i,none⟩) hbw).trans (HE0.out i v hv)
  have HS9:Hid (SpAt W.drew b (o+p * 12) s9):=fun i v hv=>(HB.out.cell (p:=⟨b,o+p * 12+i,none⟩) hbw).trans (HE9.out i v hv)
  refine wp_region_held_drew (S:=fun w'=>SpAt w' b o s0∧SpAt w' b (o+p * 12) s9) (by kernel_rfl) ⟨HS0.out,HS9.out⟩ (fun hHeld=>?_)
  generalize W.drew=W1 at HB HR HS0 HS9 hHeld ⊢
  refine tk 0 rfl (.slice (some ⟨b,o,none⟩) (p+1) c) ?_
  refine tk 1 rfl (.pointer (some ⟨b,o,none⟩)) ?_
  refine tk 2 rfl (.pointer (some ⟨b,o,none⟩)) ?_
  refine tk 3 rfl s0.lo ?_ fun w' hS'=>by obtain ⟨s0,s1,s2,s3,s4,s5,s6,s7,s8,s9,s10,s11⟩:=SpAt.cells hS'.1; go_simp
  refine tk 4 rfl (.slice (some ⟨b,o,none⟩) (p+1) c) ?_
  refine tk 5 rfl (.slice (some ⟨b,o,none⟩) (p+1) c) ?_
  refine tk 6 rfl (.int .i64 ((p+1:Nat):Int)) ?_
  refine tk 7 rfl (.int .i64 p) ?_
  refine tk 8 rfl (.pointer (some ⟨b,o+p * 12,none⟩)) ?_
  refine tk 9 rfl (.pointer (some ⟨b,o+p * 12+6,none⟩)) ?_
  refine tk 10 rfl s9.hi ?_ fun w' hS'=>by obtain ⟨s0,s1,s2,s3,s4,s5,s6,s7,s8,s9,s10,s11⟩:=SpAt.cells hS'.2; go_simp
  refine wpAnyH_ready (rs:=[11,12]) (by kernel_rfl) (by simp) ?_
  refine AllReadyH.cons (nth_ops (i:=11) rfl) (fun K hK=>?_) (AllReadyH.cons (nth_ops (i:=12) rfl) (fun K hK=>?_) AllReadyH.nil)
  ·go_simp
   have hb:Below W1.heap.size W1 (W1.alloc true):=(Below.refl _ _).alloc (Nat.le_refl _) _
   have hp5:w.heap.size<W1.heap.size:=HR.out.1
   have HB0:=HB.out.size
   replace HB:Hid (Below w.heap.size w (W1.alloc true)):=HB.out.trans (hb.mono HB.out.size)
   replace HR:=Lib.hid (HR.out.kept hb HR.out.1)
   replace HS0:=Lib.hid (HS0.out.kept hb (Nat.lt_of_lt_of_le hbw HB0))
   replace HS9:=Lib.hid (HS9.out.kept hb (Nat.lt_of_lt_of_le hbw HB0))
   clear HB0
   have H5:Hid (At6B (W1.alloc true) W1.heap.size (.int .i64 0) (.int .u64 0) (.int .u64 0) (.int .u64 0) (.slice none 0 0) (.slice none 0 0)):=At6B.new _ _ _ _ _ _ _ _
   clear hb hHeld
   generalize (W1.alloc true)=wq1 at HB HR HS0 HS9 H5 ⊢
   refine hK.out _ _ ⟨HS0.out,HS9.out⟩ (fun hHeld=>?_)
   clear hK K
   try simp only [Act.put,p1,p2,p3]
   refine cl 12 rfl fun K hK=>?_
   go_simp
   have hb:Below wq1.heap.size wq1 (wq1.alloc true):=(Below.refl _ _).alloc (Nat.le_refl _) _
   have hne:W1.heap.size≠wq1.heap.size:=Nat.ne_of_lt H5.out.1
   have hp6:w.heap.size<wq1.heap.size:=HR.out.1
   have HB0:=HB.out.size
   replace HB:Hid (Below w.heap.size w (wq1.alloc true)):=HB.out.trans (hb.mono HB.out.size)
   replace HR:=Lib.hid (HR.out.kept hb HR.out.1)
   replace HS0:=Lib.hid (HS0.out.kept hb (Nat.lt_of_lt_of_le hbw HB0))
   replace HS9:=Lib.hid (HS9.out.kept hb (Nat.lt_of_lt_of_le hbw HB0))
   replace H5:=Lib.hid (H5.out.kept hb H5.out.1)
   clear HB0
   have H6:Hid (At6B (wq1.alloc true) wq1.heap.size (.int .i64 0) (.int .u64 0) (.int .u64 0) (.int .u64 0) (.slice none 0 0) (.slice none 0 0)):=At6B.new _ _ _ _ _ _ _ _
   clear hb hHeld
   generalize (wq1.alloc true)=wq2 at HB HR HS0 HS9 H5 H6 ⊢
   refine hK.out _ _ ⟨HS0.out,HS9.out⟩ (fun hHeld=>?_)
   clear hK K
   try simp only [Act.put,p1,p2,p3]
   refine cl 13 rfl fun K hK=>?_
   obtain ⟨z1,z2,z3,z4,z5,z6,z7,z8⟩:=H5.out
   go_simp
   have hb:Below (w.heap.size+1) wq2 (Span.set6 wq2 (W1.heap.size) s0.lo.kind s0.lo.v.a s0.lo.v.b s0.lo.v.c (.slice s0.lo.A s0.lo.v.pre.length s0.lo.c) (.slice s0.lo.B s0.lo.v.build.length s0.lo.d)):=below_set6 (Below.refl _ _) (by omega) s0.lo.kind s0.lo.v.a s0.lo.v.b s0.lo.v.c (.slice s0.lo.A s0.lo.v.pre.length s0.lo.c) (.slice s0.lo.B s0.lo.v.build.length s0.lo.d)
   replace HB:Hid (Below w.heap.size w (Span.set6 wq2 (W1.heap.size) s0.lo.kind s0.lo.v.a s0.lo.v.b s0.lo.v.c (.slice s0.lo.A s0.lo.v.pre.length s0.lo.c) (.slice s0.lo.B s0.lo.v.build.length s0.lo.d))):=below_set6 HB.out (by omega) s0.lo.kind s0.lo.v.a s0.lo.v.b s0.lo.v.c (.slice s0.lo.A s0.lo.v.pre.length s0.lo.c) (.slice s0.lo.B s0.lo.v.build.length s0.lo.d)
   replace HR:=Lib.hid (HR.out.kept hb (by omega))
   replace HS0:Hid (SpAt (Span.set6 wq2 (W1.heap.size) s0.lo.kind s0.lo.v.a s0.lo.v.b s0.lo.v.c (.slice s0.lo.A s0.lo.v.pre.length s0.lo.c) (.slice s0.lo.B s0.lo.v.build.length s0.lo.d)) b o s0):=fun i v hv=>(hb.cell (p:=⟨b,o+i,none⟩) (by show b<_; omega)).trans (HS0.out i v hv)
   replace HS9:Hid (SpAt (Span.set6 wq2 (W1.heap.size) s0.lo.kind s0.lo.v.a s0.lo.v.b s0.lo.v.c (.slice s0.lo.A s0.lo.v.pre.length s0.lo.c) (.slice s0.lo.B s0.lo.v.build.length s0.lo.d)) b (o+p * 12) s9):=fun i v hv=>(hb.cell (p:=⟨b,o+p * 12+i,none⟩) (by show b<_; omega)).trans (HS9.out i v hv)
   replace H5:=Lib.hid (H5.out.set6 s0.lo.kind s0.lo.v.a s0.lo.v.b s0.lo.v.c (.slice s0.lo.A s0.lo.v.pre.length s0.lo.c) (.slice s0.lo.B s0.lo.v.build.length s0.lo.d))
   replace H6:=Lib.hid (six_ne H6.out hne.symm s0.lo.kind s0.lo.v.a s0.lo.v.b s0.lo.v.c (.slice s0.lo.A s0.lo.v.pre.length s0.lo.c) (.slice s0.lo.B s0.lo.v.build.length s0.lo.d))
   clear hb hHeld z1 z2 z3 z4 z5 z6 z7 z8
   change K _ (Span.set6 wq2 (W1.heap.size) s0.lo.kind s0.lo.v.a s0.lo.v.b s0.lo.v.c (.slice s0.lo.A s0.lo.v.pre.length s0.lo.c) (.slice s0.lo.B s0.lo.v.build.length s0.lo.d))
   generalize Span.set6 wq2 (W1.heap.size) s0.lo.kind s0.lo.v.a s0.lo.v.b s0.lo.v.c (.slice s0.lo.A s0.lo.v.pre.length s0.lo.c) (.slice s0.lo.B s0.lo.v.build.length s0.lo.d)=wq3 at HB HR HS0 HS9 H5 H6 ⊢
   refine hK.out _ _ ⟨HS0.out,HS9.out⟩ (fun hHeld=>?_)
   clear hK K
   try simp only [Act.put,p1,p2,p3]
   refine cl 14 rfl fun K hK=>?_
   obtain ⟨z1,z2,z3,z4,z5,z6,z7,z8⟩:=H6.out
   go_simp
   have hb:Below (w.heap.size+1) wq3 (Span.set6 wq3 (wq1.heap.size) s9.hi.kind s9.hi.v.a s9.hi.v.b s9.hi.v.c (.slice s9.hi.A s9.hi.v.pre.length s9.hi.c) (.slice s9.hi.B s9.hi.v.build.length s9.hi.d)):=below_set6 (Below.refl _ _) (by omega) s9.hi.kind s9.hi.v.a s9.hi.v.b s9.hi.v.c (.slice s9.hi.A s9.hi.v.pre.length s9.hi.c) (.slice s9.hi.B s9.hi.v.build.length s9.hi.d)
   replace HB:Hid (Below w.heap.size w (Span.set6 wq3 (wq1.heap.size) s9.hi.kind s9.hi.v.a s9.hi.v.b s9.hi.v.c (.slice s9.hi.A s9.hi.v.pre.length s9.hi.c) (.slice s9.hi.B s9.hi.v.build.length s9.hi.d))):=below_set6 HB.out (by omega) s9.hi.kind s9.hi.v.a s9.hi.v.b s9.hi.v.c (.slice s9.hi.A s9.hi.v.pre.length s9.hi.c) (.slice s9.hi.B s9.hi.v.build.length s9.hi.d)
   replace HR:=Lib.hid (HR.out.kept hb (by omega))
   replace HS0:Hid (SpAt (Span.set6 wq3 (wq1.heap.size) s9.hi.kind s9.hi.v.a s9.hi.v.b s9.hi.v.c (.slice s9.hi.A s9.hi.v.pre.length s9.hi.c) (.slice s9.hi.B s9.hi.v.build.length s9.hi.d)) b o s0):=fun i v hv=>(hb.cell (p:=⟨b,o+i,none⟩) (by show b<_; omega)).trans (HS0.out i v hv)
   replace HS9:Hid (SpAt (Span.set6 wq3 (wq1.heap.size) s9.hi.kind s9.hi.v.a s9.hi.v.b s9.hi.v.c (.slice s9.hi.A s9.hi.v.pre.length s9.hi.c) (.slice s9.hi.B s9.hi.v.build.length s9.hi.d)) b (o+p * 12) s9):=fun i v hv=>(hb.cell (p:=⟨b,o+p * 12+i,none⟩) (by show b<_; omega)).trans (HS9.out i v hv)
   replace H6:=Lib.hid (H6.out.set6 s9.hi.kind s9.hi.v.a s9.hi.v.b s9.hi.v.c (.slice s9.hi.A s9.hi.v.pre.length s9.hi.c) (.slice s9.hi.B s9.hi.v.build.length s9.hi.d))
   replace H5:=Lib.hid (six_ne H5.out hne s9.hi.kind s9.hi.v.a s9.hi.v.b s9.hi.v.c (.slice s9.hi.A s9.hi.v.pre.length s9.hi.c) (.slice s9.hi.B s9.hi.v.build.length s9.hi.d))
   clear hb hHeld z1 z2 z3 z4 z5 z6 z7 z8
   change K _ (Span.set6 wq3 (wq1.heap.size) s9.hi.kind s9.hi.v.a s9.hi.v.b s9.hi.v.c (.slice s9.hi.A s9.hi.v.pre.length s9.hi.c) (.slice s9.hi.B s9.hi.v.build.length s9.hi.d))
   generalize Span.set6 wq3 (wq1.heap.size) s9.hi.kind s9.hi.v.a s9.hi.v.b s9.hi.v.c (.slice s9.hi.A s9.hi.v.pre.length s9.hi.c) (.slice s9.hi.B s9.hi.v.build.length s9.hi.d)=wq4 at HB HR HS0 HS9 H5 H6 ⊢
   refine hK.out _ _ ⟨HS0.out,HS9.out⟩ (fun hHeld=>?_)
   clear hK K
   try simp only [Act.put,p1,p2,p3]
   refine wpAnyH_done (by kernel_rfl) ?_ _
   go_wp2
   go_meet
   exact ⟨_,_,rfl,rfl,PcAt.start H5.out H6.out HR.out HB.out⟩
  ·go_simp
   have hb:Below W1.heap.size W1 (W1.alloc true):=(Below.refl _ _).alloc (Nat.le_refl _) _
   have hp6:w.heap.size<W1.heap.size:=HR.out.1
   have HB0:=HB.out.size
   replace HB:Hid (Below w.heap.size w (W1.alloc true)):=HB.out.trans (hb.mono HB.out.size)
   replace HR:=Lib.hid (HR.out.kept hb HR.out.1)
   replace HS0:=Lib.hid (HS0.out.kept hb (Nat.lt_of_lt_of_le hbw HB0))
   replace HS9:=Lib.hid (HS9.out.kept hb (Nat.lt_of_lt_of_le hbw HB0))
   clear HB0
   have H6:Hid (At6B (W1.alloc true) W1.heap.size (.int .i64 0) (.int .u64 0) (.int .u64 0) (.int .u64 0) (.slice none 0 0) (.slice none 0 0)):=At6B.new _ _ _ _ _ _ _ _
   clear hb hHeld
   generalize (W1.alloc true)=wq5 at HB HR HS0 HS9 H6 ⊢
   refine hK.out _ _ ⟨HS0.out,HS9.out⟩ (fun hHeld=>?_)
   clear hK K
   try simp only [Act.put,p1,p2,p3]
   refine cl 11 rfl fun K hK=>?_
   go_simp
   have hb:Below wq5.heap.size wq5 (wq5.alloc true):=(Below.refl _ _).alloc (Nat.le_refl _) _
   have hne:wq5.heap.size≠W1.heap.size:=Nat.ne_of_gt H6.out.1
   have hp5:w.heap.size<wq5.heap.size:=HR.out.1
   have HB0:=HB.out.size
   replace HB:Hid (Below w.heap.size w (wq5.alloc true)):=HB.out.trans (hb.mono HB.out.size)
   replace HR:=Lib.hid (HR.out.kept hb HR.out.1)
   replace HS0:=Lib.hid (HS0.out.kept hb (Nat.lt_of_lt_of_le hbw HB0))
   replace HS9:=Lib.hid (HS9.out.kept hb (Nat.lt_of_lt_of_le hbw HB0))
   replace H6:=Lib.hid (H6.out.kept hb H6.out.1)
   clear HB0
   have H5:Hid (At6B (wq5.alloc true) wq5.heap.size (.int .i64 0) (.int .u64 0) (.int .u64 0) (.int .u64 0) (.slice none 0 0) (.slice none 0 0)):=At6B.new _ _ _ _ _ _ _ _
   clear hb hHeld
   generalize (wq5.alloc true)=wq6 at HB HR HS0 HS9 H6 H5 ⊢
   refine hK.out _ _ ⟨HS0.out,HS9.out⟩ (fun hHeld=>?_)
   clear hK K
   try simp only [Act.put,p1,p2,p3]
   refine cl 13 rfl fun K hK=>?_
   obtain ⟨z1,z2,z3,z4,z5,z6,z7,z8⟩:=H5.out
   go_simp
   have hb:Below (w.heap.size+1) wq6 (Span.set6 wq6 (wq5.heap.size) s0.lo.kind s0.lo.v.a s0.lo.v.b s0.lo.v.c (.slice s0.lo.A s0.lo.v.pre.length s0.lo.c) (.slice s0.lo.B s0.lo.v.build.length s0.lo.d)):=below_set6 (Below.refl _ _) (by omega) s0.lo.kind s0.lo.v.a s0.lo.v.b s0.lo.v.c (.slice s0.lo.A s0.lo.v.pre.length s0.lo.c) (.slice s0.lo.B s0.lo.v.build.length s0.lo.d)
   replace HB:Hid (Below w.heap.size w (Span.set6 wq6 (wq5.heap.size) s0.lo.kind s0.lo.v.a s0.lo.v.b s0.lo.v.c (.slice s0.lo.A s0.lo.v.pre.length s0.lo.c) (.slice s0.lo.B s0.lo.v.build.length s0.lo.d))):=below_set6 HB.out (by omega) s0.lo.kind s0.lo.v.a s0.lo.v.b s0.lo.v.c (.slice s0.lo.A s0.lo.v.pre.length s0.lo.c) (.slice s0.lo.B s0.lo.v.build.length s0.lo.d)
   replace HR:=Lib.hid (HR.out.kept hb (by omega))
   replace HS0:Hid (SpAt (Span.set6 wq6 (wq5.heap.size) s0.lo.kind s0.lo.v.a s0.lo.v.b s0.lo.v.c (.slice s0.lo.A s0.lo.v.pre.length s0.lo.c) (.slice s0.lo.B s0.lo.v.build.length s0.lo.d)) b o s0):=fun i v hv=>(hb.cell (p:=⟨b,o+i,none⟩) (by show b<_; omega)).trans (HS0.out i v hv)
   replace HS9:Hid (SpAt (Span.set6 wq6 (wq5.heap.size) s0.lo.kind s0.lo.v.a s0.lo.v.b s0.lo.v.c (.slice s0.lo.A s0.lo.v.pre.length s0.lo.c) (.slice s0.lo.B s0.lo.v.build.length s0.lo.d)) b (o+p * 12) s9):=fun i v hv=>(hb.cell (p:=⟨b,o+p * 12+i,none⟩) (by show b<_; omega)).trans (HS9.out i v hv)
   replace H5:=Lib.hid (H5.out.set6 s0.lo.kind s0.lo.v.a s0.lo.v.b s0.lo.v.c (.slice s0.lo.A s0.lo.v.pre.length s0.lo.c) (.slice s0.lo.B s0.lo.v.build.length s0.lo.d))
   replace H6:=Lib.hid (six_ne H6.out hne.symm s0.lo.kind s0.lo.v.a s0.lo.v.b s0.lo.v.c (.slice s0.lo.A s0.lo.v.pre.length s0.lo.c) (.slice s0.lo.B s0.lo.v.build.length s0.lo.d))
   clear hb hHeld z1 z2 z3 z4 z5 z6 z7 z8
   change K _ (Span.set6 wq6 (wq5.heap.size) s0.lo.kind s0.lo.v.a s0.lo.v.b s0.lo.v.c (.slice s0.lo.A s0.lo.v.pre.length s0.lo.c) (.slice s0.lo.B s0.lo.v.build.length s0.lo.d))
   generalize Span.set6 wq6 (wq5.heap.size) s0.lo.kind s0.lo.v.a s0.lo.v.b s0.lo.v.c (.slice s0.lo.A s0.lo.v.pre.length s0.lo.c) (.slice s0.lo.B s0.lo.v.build.length s0.lo.d)=wq7 at HB HR HS0 HS9 H5 H6 ⊢
   refine hK.out _ _ ⟨HS0.out,HS9.out⟩ (fun hHeld=>?_)
   clear hK K
   try simp only [Act.put,p1,p2,p3]
   refine cl 14 rfl fun K hK=>?_
   obtain ⟨z1,z2,z3,z4,z5,z6,z7,z8⟩:=H6.out
   go_simp
   have hb:Below (w.heap.size+1) wq7 (Span.set6 wq7 (W1.heap.size) s9.hi.kind s9.hi.v.a s9.hi.v.b s9.hi.v.c (.slice s9.hi.A s9.hi.v.pre.length s9.hi.c) (.slice s9.hi.B s9.hi.v.build.length s9.hi.d)):=below_set6 (Below.refl _ _) (by omega) s9.hi.kind s9.hi.v.a s9.hi.v.b s9.hi.v.c (.slice s9.hi.A s9.hi.v.pre.length s9.hi.c) (.slice s9.hi.B s9.hi.v.build.length s9.hi.d)
   replace HB:Hid (Below w.heap.size w (Span.set6 wq7 (W1.heap.size) s9.hi.kind s9.hi.v.a s9.hi.v.b s9.hi.v.c (.slice s9.hi.A s9.hi.v.pre.length s9.hi.c) (.slice s9.hi.B s9.hi.v.build.length s9.hi.d))):=below_set6 HB.out (by omega) s9.hi.kind s9.hi.v.a s9.hi.v.b s9.hi.v.c (.slice s9.hi.A s9.hi.v.pre.length s9.hi.c) (.slice s9.hi.B s9.hi.v.build.length s9.hi.d)
   replace HR:=Lib.hid (HR.out.kept hb (by omega))
   replace HS0:Hid (SpAt (Span.set6 wq7 (W1.heap.size) s9.hi.kind s9.hi.v.a s9.hi.v.b s9.hi.v.c (.slice s9.hi.A s9.hi.v.pre.length s9.hi.c) (.slice s9.hi.B s9.hi.v.build.length s9.hi.d)) b o s0):=fun i v hv=>(hb.cell (p:=⟨b,o+i,none⟩) (by show b<_; omega)).trans (HS0.out i v hv)
   replace HS9:Hid (SpAt (Span.set6 wq7 (W1.heap.size) s9.hi.kind s9.hi.v.a s9.hi.v.b s9.hi.v.c (.slice s9.hi.A s9.hi.v.pre.length s9.hi.c) (.slice s9.hi.B s9.hi.v.build.length s9.hi.d)) b (o+p * 12) s9):=fun i v hv=>(hb.cell (p:=⟨b,o+p * 12+i,none⟩) (by show b<_; omega)).trans (HS9.out i v hv)
   replace H6:=Lib.hid (H6.out.set6 s9.hi.kind s9.hi.v.a s9.hi.v.b s9.hi.v.c (.slice s9.hi.A s9.hi.v.pre.length s9.hi.c) (.slice s9.hi.B s9.hi.v.build.length s9.hi.d))
   replace H5:=Lib.hid (six_ne H5.out hne s9.hi.kind s9.hi.v.a s9.hi.v.b s9.hi.v.c (.slice s9.hi.A s9.hi.v.pre.length s9.hi.c) (.slice s9.hi.B s9.hi.v.build.length s9.hi.d))
   clear hb hHeld z1 z2 z3 z4 z5 z6 z7 z8
   change K _ (Span.set6 wq7 (W1.heap.size) s9.hi.kind s9.hi.v.a s9.hi.v.b s9.hi.v.c (.slice s9.hi.A s9.hi.v.pre.length s9.hi.c) (.slice s9.hi.B s9.hi.v.build.length s9.hi.d))
   generalize Span.set6 wq7 (W1.heap.size) s9.hi.kind s9.hi.v.a s9.hi.v.b s9.hi.v.c (.slice s9.hi.A s9.hi.v.pre.length s9.hi.c) (.slice s9.hi.B s9.hi.v.build.length s9.hi.d)=wq8 at HB HR HS0 HS9 H5 H6 ⊢
   refine hK.out _ _ ⟨HS0.out,HS9.out⟩ (fun hHeld=>?_)
   clear hK K
   try simp only [Act.put,p1,p2,p3]
   refine wpAnyH_done (by kernel_rfl) ?_ _
   go_wp2
   go_meet
   exact ⟨_,_,rfl,rfl,PcAt.start H5.out H6.out HR.out HB.out⟩
 case rest =>
 obtain ⟨p5,p6,rfl,rfl,hpc⟩:=hcut
 have HP:=Lib.hid hpc
 clear hpc HB HR
 cases hpt:isPoint s0.lo.cut s0.hi.cut with
 | true =>
  obtain ⟨_,_,a0,a1,a2,a3,a4,a5⟩:=HP.out.a5
  have q1:(FloatKind.f64.format.order f g == some .eq)=true:=HPt.out.trans hpt
  obtain rfl:pr=.mk 5 s0.lo.v []:=by rw [HPc.out,if_pos hpt]
  have HK9:=Lib.hid (Range.setR_at (x:=(verRV 5 s0.lo)) HP.out.res)
  have HB9:Hid (Below w.heap.size w (Range.setR wc w.heap.size (verRV 5 s0.lo))):=HP.out.bel.trans (Range.setR_below w.heap.size (Nat.le_refl _) (verRV 5 s0.lo))
  have HS9:Hid (Range.Lies (Range.setR wc w.heap.size (verRV 5 s0.lo)) (Strs w B) (.mk 5 s0.lo.v []) (verRV 5 s0.lo)):=lies_ver HFirst.out HB9.out (HFV.out hpt) 5
  obtain ⟨_,_,r0,r1,r2,r3,r4,r5,r6⟩:=HP.out.res
  have hfz:=HP.out.res.2.1
  clear hpt HPc
  go_wp2
  change bodyPost _ _ _ _ _ (Range.setR wc w.heap.size (verRV 5 s0.lo))
  generalize Range.setR wc w.heap.size (verRV 5 s0.lo)=W9 at HK9 HB9 HS9 ⊢
  obtain ⟨_,_,z0,z1,z2,z3,z4,z5,z6⟩:=HK9.out
  exact bodyPost_ret (v:=.agg #[.int .i64 (verRV 5 s0.lo).kind,.int .u64 ((verRV 5 s0.lo).v.a),.int .u64 ((verRV 5 s0.lo).v.b),.int .u64 ((verRV 5 s0.lo).v.c),.slice (verRV 5 s0.lo).A (verRV 5 s0.lo).v.pre.length (verRV 5 s0.lo).c,.slice (verRV 5 s0.lo).B (verRV 5 s0.lo).v.build.length (verRV 5 s0.lo).d,.slice (verRV 5 s0.lo).L (verRV 5 s0.lo).n (verRV 5 s0.lo).e]) (by simp [results,Tryz.results76,go_sem,z0,z1,z2,z3,z4,z5,z6]) rfl ⟨(verRV 5 s0.lo),rfl,HS9.out,HB9.out⟩
 | false =>
 have q1:(FloatKind.f64.format.order f g == some .eq)=false:=HPt.out.trans hpt
 have HPr:Hid (pr=few 9 (parts (l.map RSp.sp))):=by unfold Hid; rw [HPc.out,hpt]; rfl
 clear hpt HPc HPt
 obtain ⟨_,_,a0,a1,a2,a3,a4,a5⟩:=HP.out.a5
 go_upto_block 0 with (fail)
 go_cut [7] (fun v7 wx=>PcAt w wx p5 p6 s0.lo s9.hi v7 (loQ s0.lo))
 case first =>
  by_cases h1:s0.lo.kind=1
  ·have HQ:Hid (loQ s0.lo=[(1,s0.lo)]):=by unfold Hid loQ; rw [if_pos h1]
   have q1:(s0.lo.kind == 1)=true:=beq_iff_eq.2 h1
   clear h1
   go_wp2_with (first
    | (at_builtin; have hk2:Hid (PcAt w (wc.alloc (.cells (verRV 1 s0.lo).vals.toArray 28)) p5 p6 s0.lo s9.hi _ []):=HP.out.kept ((Below.refl _ _).alloc (Nat.le_refl _) _); refine wpList_append_rg _ rfl _ _ rfl (w.heap.size+1) _ _ (rvs []) rfl hk2.out.own ⟨wc.heap.size,0,none⟩ (verRV 1 s0.lo) rfl (news_new wc (verRV 1 s0.lo).vals 28) (by simp) (by have:=HP.out.res.1; simp; omega) ?_; intro v3 W3 ho hg hat; have HN:=Lib.hid (hk2.out.more 1 s0.lo ho hg hat); clear ho hg hat hk2)
    | fail)
   go_meet
   rw [HQ.out]
   exact HN.out
  ·by_cases h2:s0.lo.kind=2
   ·have q1:(s0.lo.kind == 1)=false:=beq_eq_false_iff_ne.2 h1
    have HQ:Hid (loQ s0.lo=[(2,s0.lo)]):=by unfold Hid loQ; rw [if_neg h1,if_pos h2]
    have q2:(s0.lo.kind == 2)=true:=beq_iff_eq.2 h2
    clear h1 h2
    go_wp2_with (first
    | (at_builtin; have hk2:Hid (PcAt w (wc.alloc (.cells (verRV 2 s0.lo).vals.toArray 28)) p5 p6 s0.lo s9.hi _ []):=HP.out.kept ((Below.refl _ _).alloc (Nat.le_refl _) _); refine wpList_append_rg _ rfl _ _ rfl (w.heap.size+1) _ _ (rvs []) rfl hk2.out.own ⟨wc.heap.size,0,none⟩ (verRV 2 s0.lo) rfl (news_new wc (verRV 2 s0.lo).vals 28) (by simp) (by have:=HP.out.res.1; simp; omega) ?_; intro v3 W3 ho hg hat; have HN:=Lib.hid (hk2.out.more 2 s0.lo ho hg hat); clear ho hg hat hk2)
    | fail)
    go_meet
    rw [HQ.out]
    exact HN.out
   ·have HQ:Hid (loQ s0.lo=[]):=by unfold Hid loQ; rw [if_neg h1,if_neg h2]
    have q1:(s0.lo.kind == 1)=false:=beq_eq_false_iff_ne.2 h1
    have q2:(s0.lo.kind == 2)=false:=beq_eq_false_iff_ne.2 h2
    clear h1 h2
    go_wp2
    go_meet
    rw [HQ.out]
    exact HP.out
 case rest =>
 have HP1:=Lib.hid hcut
 clear hcut a0 a1 a2 a3 a4 a5
 obtain ⟨_,_,a0,a1,a2,a3,a4,a5⟩:=HP1.out.a6
 go_upto_block 1 with (fail)
 go_cut [7] (fun v7 wx=>PcAt w wx p5 p6 s0.lo s9.hi v7 (loQ s0.lo ++ hiQ s9.hi))
 case first =>
  by_cases h1:s9.hi.kind=1
  ·have HQ:Hid (hiQ s9.hi=[(4,s9.hi)]):=by unfold Hid hiQ; rw [if_pos h1]
   have q1:(s9.hi.kind == 1)=true:=beq_iff_eq.2 h1
   clear h1
   go_wp2_with (first
    | (at_builtin; have hk2:Hid (PcAt w (wc.alloc (.cells (verRV 4 s9.hi).vals.toArray 28)) p5 p6 s0.lo s9.hi _ (loQ s0.lo)):=HP1.out.kept ((Below.refl _ _).alloc (Nat.le_refl _) _); refine wpList_append_rg _ rfl _ _ rfl (w.heap.size+1) _ _ (rvs (loQ s0.lo)) rfl hk2.out.own ⟨wc.heap.size,0,none⟩ (verRV 4 s9.hi) rfl (news_new wc (verRV 4 s9.hi).vals 28) (by have:=loQ_len s0.lo; omega) (by have:=HP1.out.res.1; simp; omega) ?_; intro v3 W3 ho hg hat; have HN:=Lib.hid (hk2.out.more 4 s9.hi ho hg hat); clear ho hg hat hk2)
    | fail)
   go_meet
   rw [HQ.out]
   exact HN.out
  ·by_cases h2:s9.hi.kind=2
   ·have q1:(s9.hi.kind == 1)=false:=beq_eq_false_iff_ne.2 h1
    have HQ:Hid (hiQ s9.hi=[(3,s9.hi)]):=by unfold Hid hiQ; rw [if_neg h1,if_pos h2]
    have q2:(s9.hi.kind == 2)=true:=beq_iff_eq.2 h2
    clear h1 h2
    go_wp2_with (first
    | (at_builtin; have hk2:Hid (PcAt w (wc.alloc (.cells (verRV 3 s9.hi).vals.toArray 28)) p5 p6 s0.lo s9.hi _ (loQ s0.lo)):=HP1.out.kept ((Below.refl _ _).alloc (Nat.le_refl _) _); refine wpList_append_rg _ rfl _ _ rfl (w.heap.size+1) _ _ (rvs (loQ s0.lo)) rfl hk2.out.own ⟨wc.heap.size,0,none⟩ (verRV 3 s9.hi) rfl (news_new wc (verRV 3 s9.hi).vals 28) (by have:=loQ_len s0.lo; omega) (by have:=HP1.out.res.1; simp; omega) ?_; intro v3 W3 ho hg hat; have HN:=Lib.hid (hk2.out.more 3 s9.hi ho hg hat); clear ho hg hat hk2)
    | fail)
    go_meet
    rw [HQ.out]
    exact HN.out
   ·have HQ:Hid (hiQ s9.hi=[]):=by unfold Hid hiQ; rw [if_neg h1,if_neg h2]
    have q1:(s9.hi.kind == 1)=false:=beq_eq_false_iff_ne.2 h1
    have q2:(s9.hi.kind == 2)=false:=beq_eq_false_iff_ne.2 h2
    clear h1 h2
    go_wp2
    go_meet
    rw [HQ.out]
    rw [List.append_nil]; exact HP1.out
 case rest =>
 have HP2:=Lib.hid hcut
 clear hcut a0 a1 a2 a3 a4 a5
 go_wp2
 go_loopw [7,9,71] (fun v7 _ iv W'=>∃ k:Nat,k≤p∧iv=.int .i64 k∧Hid (PcAt w W' p5 p6 s0.lo s9.hi v7 (loQ s0.lo ++ hiQ s9.hi ++ neQ (l.take k)))) (fun _ _ iv _=>p - (intOf iv).toNat)
 case atStart=>exact ⟨0,Nat.zero_le _,rfl,by have h:=HP2.out; unfold Hid; rw [List.take_zero,show neQ []=[] from rfl,List.append_nil]; exact h⟩
 case round =>
  obtain ⟨k,hk,rfl,HQ⟩:=hrel
  by_cases hlt:k<p
  ·skip
   have HS:=Lib.hid (HCell.out k (by omega))
   have hll:k<l.length:=by omega
   have HNe:=Lib.hid (neQ_next hll)
   have HSk:Hid (SpAt wr b (o+k * 12) (l.getD k default)):=fun i v hv=>(HQ.out.bel.cell (p:=⟨b,o+k * 12+i,none⟩) hbw).trans (HS.out i v hv)
   obtain ⟨s,hs⟩:∃ s,l.getD k default=s:=⟨_,rfl⟩
   rw [hs] at HSk HNe
   obtain ⟨s0c,s1,s2,s3,s4,s5,s6,s7,s8,s9c,s10,s11⟩:=SpAt.cells HSk.out
   have hlti:(k:Int)<(p:Int):=by omega
   have HQ1:Hid (PcAt w (wr.alloc (.cells s.vals.toArray 43)) p5 p6 s0.lo s9.hi u7 (loQ s0.lo ++ hiQ s9.hi ++ neQ (l.take k))):=HQ.out.kept ((Below.refl _ _).alloc (Nat.le_refl _) _)
   have hql:(loQ s0.lo ++ hiQ s9.hi ++ neQ (l.take k)).length≤1000000:=by
     have h1:=loQ_len s0.lo
     have h2:=hiQ_len s9.hi
     rw [List.length_append,List.length_append]
     unfold neQ
     rw [List.length_map,List.length_take]; omega
   clear HS hs
   have H12:Hid (At12B (wr.alloc (.cells s.vals.toArray 43)) wr.heap.size s.lo.kind s.lo.v.a s.lo.v.b s.lo.v.c (.slice s.lo.A s.lo.v.pre.length s.lo.c) (.slice s.lo.B s.lo.v.build.length s.lo.d) s.hi.kind s.hi.v.a s.hi.v.b s.hi.v.c (.slice s.hi.A s.hi.v.pre.length s.hi.c) (.slice s.hi.B s.hi.v.build.length s.hi.d)):=At12B.new _ _ _ _ _ _ _ _ _ _ _ _ _ _
   go_upto_region 18 with (fail)
   change Code.wp _ _ _ _ (wr.alloc (.cells s.vals.toArray 43))
   generalize (wr.alloc (.cells s.vals.toArray 43))=W8 at HQ1 H12 ⊢
   clear s0c s1 s2 s3 s4 s5 s6 s7 s8 s9c s10 s11 HQ HSk
   obtain ⟨_,_,t0,t1,t2,t3,t4,t5,t6,t7,t8,t9,t10,t11⟩:=H12.out
   go_wp2_with (first
    | (at_builtin; have hk2:Hid (PcAt w (W8.alloc (.cells (verRV 6 s.hi).vals.toArray 28)) p5 p6 s0.lo s9.hi _ (loQ s0.lo ++ hiQ s9.hi ++ neQ (l.take k))):=HQ1.out.kept ((Below.refl _ _).alloc (Nat.le_refl _) _); refine wpList_append_rg _ rfl _ _ rfl (w.heap.size+1) _ _ (rvs (loQ s0.lo ++ hiQ s9.hi ++ neQ (l.take k))) rfl hk2.out.own ⟨W8.heap.size,0,none⟩ (verRV 6 s.hi) rfl (news_new W8 (verRV 6 s.hi).vals 28) (by omega) (by have:=HQ1.out.res.1; simp; omega) ?_; intro v3 W3 ho hg hat; have HN:=Lib.hid (hk2.out.more 6 s.hi ho hg hat); clear ho hg hat hk2)
    | fail)
   exact ⟨⟨k+1,by omega,by go_num,by have h:=HN.out; rw [List.append_assoc,← HNe.out] at h; exact h⟩,by simp [intOf]; omega⟩
  ·skip
   obtain rfl:k=p:=by omega
   have HAll:Hid (PcAt w wr p5 p6 s0.lo s9.hi u7 (allQ l k)):=by unfold Hid; rw [HAllQ.out]; exact HQ.out
   have hex:∃ L e n9,u7=.slice L n9 e∧n9≤e∧(L=none→e=0)∧RgRow wr (Strs w B) L n9 (parts (l.map RSp.sp))∧n9≤1000000:=by
    obtain ⟨L,e,h1,h2,h3,h4⟩:=HAll.out.row hB HOwn.out HGood.out
    rw [HParts.out] at h4
    refine ⟨L,e,_,h1,h2,h3,h4,?_⟩
    have h5:=loQ_len s0.lo
    have h6:=hiQ_len s9.hi
    rw [HAllQ.out,List.length_append,List.length_append]
    unfold neQ
    rw [List.length_map,List.length_take]; omega
   have HRes:=Lib.hid HAll.out.res
   have HBel:=Lib.hid HAll.out.bel
   obtain ⟨L,e,n9,rfl,he,hnil,hrow,hn9⟩:=hex
   have HRw:=Lib.hid hrow
   have HNil:=Lib.hid hnil
   generalize parts (l.map RSp.sp)=ps at HRw HPr
   have hlt2:¬ (k:Int)<(k:Int):=Int.lt_irrefl _
   clear hrow hnil hlt HQ HAll HOwn HGood HParts HAllQ HP HP1 HP2 HCell HRow HE0 HE9 HFirst HFV hk
   go_wp2_with fail
   refine (joined_any 9 L n9 e ps (Strs w B) wr HRw.out he HNil.out hn9).mono ?_
   rintro e4 W4 ⟨x,he4,hx,hb⟩
   unfold RV.agg at he4
   subst he4
   have HR4:=Lib.hid (HRes.out.kept hb HRes.out.1)
   have HB4:=Lib.hid (HBel.out.trans (hb.mono HBel.out.size))
   have HK9:=Lib.hid (Range.setR_at (x:=x) HR4.out)
   have HB9:Hid (Below w.heap.size w (Range.setR W4 w.heap.size x)):=HB4.out.trans (Range.setR_below w.heap.size (Nat.le_refl _) x)
   have HS9:Hid (Range.Lies (Range.setR W4 w.heap.size x) (Strs w B) pr x):=by
    unfold Hid
    rw [HPr.out]
    exact hx.keep (Range.setR_keep (strs_not w B) x)
   obtain ⟨_,hfz,r0,r1,r2,r3,r4,r5,r6⟩:=HR4.out
   clear hb hx HRw HNil HR4 HB4 HRes HBel
   go_wp2
   change bodyPost _ _ _ _ _ (Range.setR W4 w.heap.size x)
   generalize Range.setR W4 w.heap.size x=W9 at HK9 HB9 HS9 ⊢
   obtain ⟨_,_,z0,z1,z2,z3,z4,z5,z6⟩:=HK9.out
   exact bodyPost_ret (v:=.agg #[x.kind,x.v.a,x.v.b,x.v.c,.slice x.A x.v.pre.length x.c,.slice x.B x.v.build.length x.d,.slice x.L x.n x.e]) (by simp [results,Tryz.results76,go_sem,z0,z1,z2,z3,z4,z5,z6]) rfl ⟨x,rfl,HS9.out,HB9.out⟩
end Go.Proofs.YtgfbflnhjpbceaaGreatDoor.Nrm
