/-
  What the theorem of the last text needs of these: NmVer. Conditions: as each theorem states.
-/
import Derived.Test.YtgakcdcfblgagaaGreatDoorRoA1
import Derived.Test.YtgakcdcfblgagaaGreatDoorRoA11
import Derived.Test.YtgakcdcfblgagaaGreatDoorRoA21
import Derived.Deep.CutBlock
import Derived.Deep.DeepCutAuto
import Derived.Deep.RegionHeld3
set_option maxRecDepth 100000
set_option maxHeartbeats 25600000
namespace Go.Proofs.YtgakcdcfblgagaaGreatDoor.Nrm
open Go.RowKit Num Ident Semver Prec Span
open Range (Rng noRng goodR goodL fits RV RAt)
theorem six_ne {W:World} {b b':Nat} {u0 u1 u2 u3 u4 u5:Value} (h:At6B W b u0 u1 u2 u3 u4 u5) (hb:b≠b') (v0 v1 v2 v3 v4 v5:Value):At6B (Span.set6 W b' v0 v1 v2 v3 v4 v5) b u0 u1 u2 u3 u4 u5 :=
 (((((h.beside hb v0).beside hb v1).beside hb v2).beside hb v3).beside hb v4).beside hb v5
theorem setIn_imp {w:World} {k k':Nat} {P Q:List Sp→Prop} {e:Ending} {w':World} (h:SetIn w k P e w') (hPQ:∀ o,P o→Q o) (hk:k≤k'):SetIn w k' Q e w':=by
 obtain ⟨A,n,c,out,h1,h2,h3,h4,h5⟩:=h
 exact ⟨A,n,c,out,h1,h2,Nat.le_trans h3 hk,hPQ _ h4,h5⟩
theorem end_fit (x y z i:Nat):Fit (verOf (endV x y z i)).pre:=by
 have key:∀ a b c,Fit (verOf (some (firstV a b c))).pre:=fun a b c=>Fit.zero
 unfold endV
 split
 ·split
  ·exact Fit.nil
  ·exact key _ _ _
 ·split
  ·split
   ·exact Fit.nil
   ·exact key _ _ _
  ·split
   ·exact Fit.nil
   ·exact key _ _ _
theorem nend_any (o:Option Ver) (A:Option Addr) (c:Nat) (w:World) (hr:SRow w A (verOf o).pre.length (verOf o).pre) (hf:Fit (verOf o).pre) (hb:(verOf o).build=[]) :
  Calls Tryz.prog 219 #[.agg #[.int .u64 ((verOf o).a),.int .u64 ((verOf o).b),.int .u64 ((verOf o).c),.slice A (verOf o).pre.length c,.slice none (verOf o).build.length 0],.bool o.isSome] w fun e w' =>
   ∃ z:RCut,e=.returned z∧z.cut=endCut o∧Span.Lies w' z∧Below w.heap.size w w':=by
 cases o with
 | none =>
  exact (nend_no noVer A c none 0 w).mono fun e w' ⟨h1,h2⟩=>⟨rhigh,h1,rfl,Span.Lies.high _,h2⟩
 | some v =>
  refine (nend_yes v A c none 0 w).mono fun e w' ⟨h1,h2⟩=>⟨⟨1,bare v,A,c,none,0⟩,h1,?_,⟨hr.kept h2,SRow.none_ _ _,hf,Fit.nil⟩,h2⟩
  show Cut.mk 1 (bare v)=⟨1,v⟩
  have e:bare v=v:=by unfold bare; rw [← show v.build=[] from hb]
  rw [e]
structure VeAt (w W:World) (x:RV):Prop where
 bel:Below w.heap.size w W
 r:RAt W w.heap.size x
 l:At6B W (w.heap.size+1) (.int .i64 0) (.int .u64 0) (.int .u64 0) (.int .u64 0) (.slice none 0 0) (.slice none 0 0)
 h:At6B W (w.heap.size+1+1) (.int .i64 3) (.int .u64 0) (.int .u64 0) (.int .u64 0) (.slice none 0 0) (.slice none 0 0)
theorem VeAt.kept {w W W':World} {x:RV} (h:VeAt w W x) (hb:Below W.heap.size W W'):VeAt w W' x:=⟨h.bel.trans (hb.mono h.bel.size),h.r.kept hb h.r.1,h.l.kept hb h.l.1,h.h.kept hb h.h.1⟩
theorem ve_alloc {w W:World} {x:RV} {K:Act→World→Prop} {a:Act} (h:VeAt w W x) (k:∀ W',VeAt w W' x→At6B W' W.heap.size (.int .i64 0) (.int .u64 0) (.int .u64 0) (.int .u64 0) (.slice none 0 0) (.slice none 0 0)→Below W.heap.size W W'→K a W'):K a (W.alloc true) :=
 have hb:Below W.heap.size W (W.alloc true):=(Below.refl _ _).alloc (Nat.le_refl _) _
 k _ (h.kept hb) (At6B.new _ _ _ _ _ _ _ _) hb
theorem ve_store {w W:World} {x:RV} {b:Nat} {v0 v1 v2 v3 v4 v5:Value} {K:Act→World→Prop} {a:Act} (h:VeAt w W x) (hB:w.heap.size+3≤b)
  (k:∀ W',VeAt w W' x→(∀ {u0 u1 u2 u3 u4 u5:Value},At6B W b u0 u1 u2 u3 u4 u5→At6B W' b v0 v1 v2 v3 v4 v5)→(∀ {b':Nat} {u0 u1 u2 u3 u4 u5:Value},b'≠b→At6B W b' u0 u1 u2 u3 u4 u5→At6B W' b' u0 u1 u2 u3 u4 u5)→K a W'):K a (Span.set6 W b v0 v1 v2 v3 v4 v5) :=
 have hb:Below (w.heap.size+3) W (Span.set6 W b v0 v1 v2 v3 v4 v5):=below_set6 (Below.refl _ _) hB _ _ _ _ _ _
 k _ ⟨h.bel.trans (hb.mono (by omega)),h.r.kept hb (by omega),h.l.kept hb (by omega),h.h.kept hb (by omega)⟩ (fun h=>h.set6 _ _ _ _ _ _) (fun hne h=>six_ne h hne _ _ _ _ _ _)
theorem byVer_any (x:RV) (w:World) (hr:SRow w x.A x.v.pre.length x.v.pre) (hf:Fit x.v.pre) (hk:x.kind=0∨(1≤x.kind∧x.kind≤8∧goodV x.v=true)) :
  Calls Tryz.prog 178 #[x.agg] w (SetIn w 2 (SetOf (.mk x.kind x.v []))):=by
 have HRow:=Lib.hid hr
 have HF:Hid (Fit x.v.pre):=hf
 have HG:Hid (x.kind=0∨goodV x.v=true):=hk.elim .inl fun h=>.inr h.2.2
 have HB:Hid (Below w.heap.size w (((w.alloc x).alloc true).alloc (.cells #[.int .i64 3,.int .u64 0,.int .u64 0,.int .u64 0,.slice none 0 0,.slice none 0 0] 193))):=(((Below.refl _ _).alloc (Nat.le_refl _) _).alloc (by simp) _).alloc (by simp; omega) _
 have HR:Hid (RAt (((w.alloc x).alloc true).alloc (.cells #[.int .i64 3,.int .u64 0,.int .u64 0,.int .u64 0,.slice none 0 0,.slice none 0 0] 193)) w.heap.size x):=by
  have h:=(RAt.new w 65 x).kept ((Below.refl _ _).alloc (Nat.le_refl _) true) (by simp)
  exact h.kept ((Below.refl _ _).alloc (Nat.le_refl _) (.cells #[.int .i64 3,.int .u64 0,.int .u64 0,.int .u64 0,.slice none 0 0,.slice none 0 0] 193)) (by simp; omega)
 have HL:Hid (At6B (((w.alloc x).alloc true).alloc (.cells #[.int .i64 3,.int .u64 0,.int .u64 0,.int .u64 0,.slice none 0 0,.slice none 0 0] 193)) (w.heap.size+1) (.int .i64 0) (.int .u64 0) (.int .u64 0) (.int .u64 0) (.slice none 0 0) (.slice none 0 0)):=by
  have h:=(At6B.new (w.alloc x) 193 (.int .i64 0) (.int .u64 0) (.int .u64 0) (.int .u64 0) (.slice none 0 0) (.slice none 0 0)).kept ((Below.refl _ _).alloc (Nat.le_refl _) (.cells #[.int .i64 3,.int .u64 0,.int .u64 0,.int .u64 0,.slice none 0 0,.slice none 0 0] 193)) (by simp)
  rw [size_alloc] at h; exact h
 have HH:Hid (At6B (((w.alloc x).alloc true).alloc (.cells #[.int .i64 3,.int .u64 0,.int .u64 0,.int .u64 0,.slice none 0 0,.slice none 0 0] 193)) (w.heap.size+1+1) (.int .i64 3) (.int .u64 0) (.int .u64 0) (.int .u64 0) (.slice none 0 0) (.slice none 0 0)):=by
  have h:=At6B.new ((w.alloc x).alloc true) 193 (.int .i64 3) (.int .u64 0) (.int .u64 0) (.int .u64 0) (.slice none 0 0) (.slice none 0 0)
  rw [size_alloc,size_alloc] at h; exact h
 clear hr hf
 unfold RV.agg
 go_enter Tryz.func178,Tryz.ntmps178
 go_upto_region 2 with (fail)
 go_cut [5,6] (fun v5 v6 wx=>∃ p5 p6,v5=.pointer (some ⟨p5,0,none⟩)∧v6=.pointer (some ⟨p6,0,none⟩)∧At6B wx p5 (.int .i64 1) x.v.a x.v.b x.v.c (.slice x.A x.v.pre.length x.c) (.slice none 0 0)∧At6B wx p6 (.int .i64 2) x.v.a x.v.b x.v.c (.slice x.A x.v.pre.length x.c) (.slice none 0 0)∧RAt wx w.heap.size x∧At6B wx (w.heap.size+1) (.int .i64 0) (.int .u64 0) (.int .u64 0) (.int .u64 0) (.slice none 0 0) (.slice none 0 0)∧At6B wx (w.heap.size+1+1) (.int .i64 3) (.int .u64 0) (.int .u64 0) (.int .u64 0) (.slice none 0 0) (.slice none 0 0)∧Below w.heap.size w wx)
 case first =>
  generalize (((w.alloc x).alloc true).alloc (.cells #[.int .i64 3,.int .u64 0,.int .u64 0,.int .u64 0,.slice none 0 0,.slice none 0 0] 193))=W0 at HB HR HL HH ⊢
  replace HB:Hid (Below w.heap.size w W0.drew):=HB.out.drew
  replace HR:Hid (RAt W0.drew w.heap.size x):=HR.out
  replace HL:Hid (At6B W0.drew (w.heap.size+1) (.int .i64 0) (.int .u64 0) (.int .u64 0) (.int .u64 0) (.slice none 0 0) (.slice none 0 0)):=HL.out
  replace HH:Hid (At6B W0.drew (w.heap.size+1+1) (.int .i64 3) (.int .u64 0) (.int .u64 0) (.int .u64 0) (.slice none 0 0) (.slice none 0 0)):=HH.out
  have HE:Hid (VeAt w W0.drew x):=⟨HB.out,HR.out,HL.out,HH.out⟩
  refine wp_region_held_drew (S:=fun w'=>RAt w' w.heap.size x) (by kernel_rfl) HR.out (fun hHeld=>?_)
  clear HB HR HL HH
  generalize W0.drew=W1 at HE hHeld ⊢
  refine tk 0 rfl (.pointer (some ⟨w.heap.size,1,none⟩)) ?_
  refine tk 1 rfl (.agg #[x.v.a,x.v.b,x.v.c,.slice x.A x.v.pre.length x.c,.slice x.B x.v.build.length x.d]) ?_ fun w' hS'=>by obtain ⟨y1,y2,c0,c1,c2,c3,c4,c5,c6⟩:=hS'; go_simp
  refine tk 3 rfl (.pointer (some ⟨w.heap.size,1,none⟩)) ?_
  refine tk 4 rfl (.agg #[x.v.a,x.v.b,x.v.c,.slice x.A x.v.pre.length x.c,.slice x.B x.v.build.length x.d]) ?_ fun w' hS'=>by obtain ⟨y1,y2,c0,c1,c2,c3,c4,c5,c6⟩:=hS'; go_simp
  refine wpAnyH_ready (rs:=[2,6,7]) (by kernel_rfl) (by simp) ?_
  refine AllReadyH.cons (nth_ops (i:=2) rfl) (fun K hK=>?_) (AllReadyH.cons (nth_ops (i:=6) rfl) (fun K hK=>?_) (AllReadyH.cons (nth_ops (i:=7) rfl) (fun K hK=>?_) AllReadyH.nil))
  ·go_simp
   refine (ncut_any 1 x.v x.A x.c x.B x.d _).mono ?_
   rintro e wq1 ⟨rfl,hb⟩
   replace HE:=Lib.hid (HE.out.kept hb)
   clear hb hHeld
   refine hK.out _ _ HE.out.r (fun hHeld=>?_)
   clear hK K
   try simp only [Act.put,p1,p2,p3]
   refine wpAnyH_ready (rs:=[5,6,7]) (by kernel_rfl) (by simp) ?_
   refine AllReadyH.cons (nth_ops (i:=5) rfl) (fun K hK=>?_) (AllReadyH.cons (nth_ops (i:=6) rfl) (fun K hK=>?_) (AllReadyH.cons (nth_ops (i:=7) rfl) (fun K hK=>?_) AllReadyH.nil))
   ·go_simp
    refine (ncut_any 2 x.v x.A x.c x.B x.d _).mono ?_
    rintro e wq2 ⟨rfl,hb⟩
    replace HE:=Lib.hid (HE.out.kept hb)
    clear hb hHeld
    refine hK.out _ _ HE.out.r (fun hHeld=>?_)
    clear hK K
    try simp only [Act.put,p1,p2,p3]
    refine wpAnyH_ready (rs:=[6,7]) (by kernel_rfl) (by simp) ?_
    refine AllReadyH.cons (nth_ops (i:=6) rfl) (fun K hK=>?_) (AllReadyH.cons (nth_ops (i:=7) rfl) (fun K hK=>?_) AllReadyH.nil)
    ·go_simp
     have hp5:w.heap.size+2<wq2.heap.size:=HE.out.h.1
     refine ve_alloc HE.out fun wq3 HE2 h hb=>?_
     replace HE:=Lib.hid HE2
     have H5:=Lib.hid h
     clear hb hHeld HE2 h
     refine hK.out _ _ HE.out.r (fun hHeld=>?_)
     clear hK K
     try simp only [Act.put,p1,p2,p3]
     refine cl 7 rfl fun K hK=>?_
     go_simp
     have hne:wq2.heap.size≠wq3.heap.size:=Nat.ne_of_lt H5.out.1
     have hp6:w.heap.size+2<wq3.heap.size:=HE.out.h.1
     refine ve_alloc HE.out fun wq4 HE2 h hb=>?_
     replace H5:=Lib.hid (H5.out.kept hb H5.out.1)
     replace HE:=Lib.hid HE2
     have H6:=Lib.hid h
     clear hb hHeld HE2 h
     refine hK.out _ _ HE.out.r (fun hHeld=>?_)
     clear hK K
     try simp only [Act.put,p1,p2,p3]
     refine cl 8 rfl fun K hK=>?_
     obtain ⟨z1,z2,s0,s1,s2,s3,s4,s5⟩:=H5.out
     go_simp
     refine ve_store HE.out (show w.heap.size+3≤wq2.heap.size by omega) fun wq5 HE2 hs hn=>?_
     replace HE:=Lib.hid HE2
     replace H5:=Lib.hid (hs H5.out)
     replace H6:=Lib.hid (hn hne.symm H6.out)
     clear HE2 hs hn hHeld z1 z2 s0 s1 s2 s3 s4 s5
     refine hK.out _ _ HE.out.r (fun hHeld=>?_)
     clear hK K
     try simp only [Act.put,p1,p2,p3]
     refine cl 9 rfl fun K hK=>?_
     obtain ⟨z1,z2,s0,s1,s2,s3,s4,s5⟩:=H6.out
     go_simp
     refine ve_store HE.out (show w.heap.size+3≤wq3.heap.size by omega) fun wq6 HE2 hs hn=>?_
     replace HE:=Lib.hid HE2
     replace H6:=Lib.hid (hs H6.out)
     replace H5:=Lib.hid (hn hne H5.out)
     clear HE2 hs hn hHeld z1 z2 s0 s1 s2 s3 s4 s5
     refine hK.out _ _ HE.out.r (fun hHeld=>?_)
     clear hK K
     try simp only [Act.put,p1,p2,p3]
     refine wpAnyH_done (by kernel_rfl) ?_ _
     go_wp2
     go_meet
     exact ⟨_,_,rfl,rfl,H5.out,H6.out,HE.out.r,HE.out.l,HE.out.h,HE.out.bel⟩
    ·go_simp
     have hp6:w.heap.size+2<wq2.heap.size:=HE.out.h.1
     refine ve_alloc HE.out fun wq7 HE2 h hb=>?_
     replace HE:=Lib.hid HE2
     have H6:=Lib.hid h
     clear hb hHeld HE2 h
     refine hK.out _ _ HE.out.r (fun hHeld=>?_)
     clear hK K
     try simp only [Act.put,p1,p2,p3]
     refine cl 6 rfl fun K hK=>?_
     go_simp
     have hne:wq7.heap.size≠wq2.heap.size:=Nat.ne_of_gt H6.out.1
     have hp5:w.heap.size+2<wq7.heap.size:=HE.out.h.1
     refine ve_alloc HE.out fun wq8 HE2 h hb=>?_
     replace H6:=Lib.hid (H6.out.kept hb H6.out.1)
     replace HE:=Lib.hid HE2
     have H5:=Lib.hid h
     clear hb hHeld HE2 h
     refine hK.out _ _ HE.out.r (fun hHeld=>?_)
     clear hK K
     try simp only [Act.put,p1,p2,p3]
     refine cl 8 rfl fun K hK=>?_
     obtain ⟨z1,z2,s0,s1,s2,s3,s4,s5⟩:=H5.out
     go_simp
     refine ve_store HE.out (show w.heap.size+3≤wq7.heap.size by omega) fun wq9 HE2 hs hn=>?_
     replace HE:=Lib.hid HE2
     replace H5:=Lib.hid (hs H5.out)
     replace H6:=Lib.hid (hn hne.symm H6.out)
     clear HE2 hs hn hHeld z1 z2 s0 s1 s2 s3 s4 s5
     refine hK.out _ _ HE.out.r (fun hHeld=>?_)
     clear hK K
     try simp only [Act.put,p1,p2,p3]
     refine cl 9 rfl fun K hK=>?_
     obtain ⟨z1,z2,s0,s1,s2,s3,s4,s5⟩:=H6.out
     go_simp
     refine ve_store HE.out (show w.heap.size+3≤wq2.heap.size by omega) fun wq10 HE2 hs hn=>?_
     replace HE:=Lib.hid HE2
     replace H6:=Lib.hid (hs H6.out)
     replace H5:=Lib.hid (hn hne H5.out)
     clear HE2 hs hn hHeld z1 z2 s0 s1 s2 s3 s4 s5
     refine hK.out _ _ HE.out.r (fun hHeld=>?_)
     clear hK K
     try simp only [Act.put,p1,p2,p3]
     refine wpAnyH_done (by kernel_rfl) ?_ _
     go_wp2
     go_meet
     exact ⟨_,_,rfl,rfl,H5.out,H6.out,HE.out.r,HE.out.l,HE.out.h,HE.out.bel⟩
   ·go_simp
    have hp5:w.heap.size+2<wq1.heap.size:=HE.out.h.1
    refine ve_alloc HE.out fun wq11 HE2 h hb=>?_
    replace HE:=Lib.hid HE2
    have H5:=Lib.hid h
    clear hb hHeld HE2 h
    refine hK.out _ _ HE.out.r (fun hHeld=>?_)
    clear hK K
    try simp only [Act.put,p1,p2,p3]
    refine wpAnyH_ready (rs:=[5,7]) (by kernel_rfl) (by simp) ?_
    refine AllReadyH.cons (nth_ops (i:=5) rfl) (fun K hK=>?_) (AllReadyH.cons (nth_ops (i:=7) rfl) (fun K hK=>?_) AllReadyH.nil)
    ·go_simp
     refine (ncut_any 2 x.v x.A x.c x.B x.d _).mono ?_
     rintro e wq12 ⟨rfl,hb⟩
     replace HE:=Lib.hid (HE.out.kept hb)
     replace H5:=Lib.hid (H5.out.kept hb H5.out.1)
     clear hb hHeld
     refine hK.out _ _ HE.out.r (fun hHeld=>?_)
     clear hK K
     try simp only [Act.put,p1,p2,p3]
     refine cl 7 rfl fun K hK=>?_
     go_simp
     have hne:wq1.heap.size≠wq12.heap.size:=Nat.ne_of_lt H5.out.1
     have hp6:w.heap.size+2<wq12.heap.size:=HE.out.h.1
     refine ve_alloc HE.out fun wq13 HE2 h hb=>?_
     replace H5:=Lib.hid (H5.out.kept hb H5.out.1)
     replace HE:=Lib.hid HE2
     have H6:=Lib.hid h
     clear hb hHeld HE2 h
     refine hK.out _ _ HE.out.r (fun hHeld=>?_)
     clear hK K
     try simp only [Act.put,p1,p2,p3]
     refine cl 8 rfl fun K hK=>?_
     obtain ⟨z1,z2,s0,s1,s2,s3,s4,s5⟩:=H5.out
     go_simp
     refine ve_store HE.out (show w.heap.size+3≤wq1.heap.size by omega) fun wq14 HE2 hs hn=>?_
     replace HE:=Lib.hid HE2
     replace H5:=Lib.hid (hs H5.out)
     replace H6:=Lib.hid (hn hne.symm H6.out)
     clear HE2 hs hn hHeld z1 z2 s0 s1 s2 s3 s4 s5
     refine hK.out _ _ HE.out.r (fun hHeld=>?_)
     clear hK K
     try simp only [Act.put,p1,p2,p3]
     refine cl 9 rfl fun K hK=>?_
     obtain ⟨z1,z2,s0,s1,s2,s3,s4,s5⟩:=H6.out
     go_simp
     refine ve_store HE.out (show w.heap.size+3≤wq12.heap.size by omega) fun wq15 HE2 hs hn=>?_
     replace HE:=Lib.hid HE2
     replace H6:=Lib.hid (hs H6.out)
     replace H5:=Lib.hid (hn hne H5.out)
     clear HE2 hs hn hHeld z1 z2 s0 s1 s2 s3 s4 s5
     refine hK.out _ _ HE.out.r (fun hHeld=>?_)
     clear hK K
     try simp only [Act.put,p1,p2,p3]
     refine wpAnyH_done (by kernel_rfl) ?_ _
     go_wp2
     go_meet
     exact ⟨_,_,rfl,rfl,H5.out,H6.out,HE.out.r,HE.out.l,HE.out.h,HE.out.bel⟩
    ·go_simp
     have hne:wq1.heap.size≠wq11.heap.size:=Nat.ne_of_lt H5.out.1
     have hp6:w.heap.size+2<wq11.heap.size:=HE.out.h.1
     refine ve_alloc HE.out fun wq16 HE2 h hb=>?_
     replace H5:=Lib.hid (H5.out.kept hb H5.out.1)
     replace HE:=Lib.hid HE2
     have H6:=Lib.hid h
     clear hb hHeld HE2 h
     refine hK.out _ _ HE.out.r (fun hHeld=>?_)
     clear hK K
     try simp only [Act.put,p1,p2,p3]
     refine cl 5 rfl fun K hK=>?_
     go_simp
     refine (ncut_any 2 x.v x.A x.c x.B x.d _).mono ?_
     rintro e wq17 ⟨rfl,hb⟩
     replace HE:=Lib.hid (HE.out.kept hb)
     replace H5:=Lib.hid (H5.out.kept hb H5.out.1)
     replace H6:=Lib.hid (H6.out.kept hb H6.out.1)
     clear hb hHeld
     refine hK.out _ _ HE.out.r (fun hHeld=>?_)
     clear hK K
     try simp only [Act.put,p1,p2,p3]
     refine cl 8 rfl fun K hK=>?_
     obtain ⟨z1,z2,s0,s1,s2,s3,s4,s5⟩:=H5.out
     go_simp
     refine ve_store HE.out (show w.heap.size+3≤wq1.heap.size by omega) fun wq18 HE2 hs hn=>?_
     replace HE:=Lib.hid HE2
     replace H5:=Lib.hid (hs H5.out)
     replace H6:=Lib.hid (hn hne.symm H6.out)
     clear HE2 hs hn hHeld z1 z2 s0 s1 s2 s3 s4 s5
     refine hK.out _ _ HE.out.r (fun hHeld=>?_)
     clear hK K
     try simp only [Act.put,p1,p2,p3]
     refine cl 9 rfl fun K hK=>?_
     obtain ⟨z1,z2,s0,s1,s2,s3,s4,s5⟩:=H6.out
     go_simp
     refine ve_store HE.out (show w.heap.size+3≤wq11.heap.size by omega) fun wq19 HE2 hs hn=>?_
     replace HE:=Lib.hid HE2
     replace H6:=Lib.hid (hs H6.out)
     replace H5:=Lib.hid (hn hne H5.out)
     clear HE2 hs hn hHeld z1 z2 s0 s1 s2 s3 s4 s5
     refine hK.out _ _ HE.out.r (fun hHeld=>?_)
     clear hK K
     try simp only [Act.put,p1,p2,p3]
     refine wpAnyH_done (by kernel_rfl) ?_ _
     go_wp2
     go_meet
     exact ⟨_,_,rfl,rfl,H5.out,H6.out,HE.out.r,HE.out.l,HE.out.h,HE.out.bel⟩
   ·go_simp
    have hp6:w.heap.size+2<wq1.heap.size:=HE.out.h.1
    refine ve_alloc HE.out fun wq20 HE2 h hb=>?_
    replace HE:=Lib.hid HE2
    have H6:=Lib.hid h
    clear hb hHeld HE2 h
    refine hK.out _ _ HE.out.r (fun hHeld=>?_)
    clear hK K
    try simp only [Act.put,p1,p2,p3]
    refine wpAnyH_ready (rs:=[5,6]) (by kernel_rfl) (by simp) ?_
    refine AllReadyH.cons (nth_ops (i:=5) rfl) (fun K hK=>?_) (AllReadyH.cons (nth_ops (i:=6) rfl) (fun K hK=>?_) AllReadyH.nil)
    ·go_simp
     refine (ncut_any 2 x.v x.A x.c x.B x.d _).mono ?_
     rintro e wq21 ⟨rfl,hb⟩
     replace HE:=Lib.hid (HE.out.kept hb)
     replace H6:=Lib.hid (H6.out.kept hb H6.out.1)
     clear hb hHeld
     refine hK.out _ _ HE.out.r (fun hHeld=>?_)
     clear hK K
     try simp only [Act.put,p1,p2,p3]
     refine cl 6 rfl fun K hK=>?_
     go_simp
     have hne:wq21.heap.size≠wq1.heap.size:=Nat.ne_of_gt H6.out.1
     have hp5:w.heap.size+2<wq21.heap.size:=HE.out.h.1
     refine ve_alloc HE.out fun wq22 HE2 h hb=>?_
     replace H6:=Lib.hid (H6.out.kept hb H6.out.1)
     replace HE:=Lib.hid HE2
     have H5:=Lib.hid h
     clear hb hHeld HE2 h
     refine hK.out _ _ HE.out.r (fun hHeld=>?_)
     clear hK K
     try simp only [Act.put,p1,p2,p3]
     refine cl 8 rfl fun K hK=>?_
     obtain ⟨z1,z2,s0,s1,s2,s3,s4,s5⟩:=H5.out
     go_simp
     refine ve_store HE.out (show w.heap.size+3≤wq21.heap.size by omega) fun wq23 HE2 hs hn=>?_
     replace HE:=Lib.hid HE2
     replace H5:=Lib.hid (hs H5.out)
     replace H6:=Lib.hid (hn hne.symm H6.out)
     clear HE2 hs hn hHeld z1 z2 s0 s1 s2 s3 s4 s5
     refine hK.out _ _ HE.out.r (fun hHeld=>?_)
     clear hK K
     try simp only [Act.put,p1,p2,p3]
     refine cl 9 rfl fun K hK=>?_
     obtain ⟨z1,z2,s0,s1,s2,s3,s4,s5⟩:=H6.out
     go_simp
     refine ve_store HE.out (show w.heap.size+3≤wq1.heap.size by omega) fun wq24 HE2 hs hn=>?_
     replace HE:=Lib.hid HE2
     replace H6:=Lib.hid (hs H6.out)
     replace H5:=Lib.hid (hn hne H5.out)
     clear HE2 hs hn hHeld z1 z2 s0 s1 s2 s3 s4 s5
     refine hK.out _ _ HE.out.r (fun hHeld=>?_)
     clear hK K
     try simp only [Act.put,p1,p2,p3]
     refine wpAnyH_done (by kernel_rfl) ?_ _
     go_wp2
     go_meet
     exact ⟨_,_,rfl,rfl,H5.out,H6.out,HE.out.r,HE.out.l,HE.out.h,HE.out.bel⟩
    ·go_simp
     have hne:wq20.heap.size≠wq1.heap.size:=Nat.ne_of_gt H6.out.1
     have hp5:w.heap.size+2<wq20.heap.size:=HE.out.h.1
     refine ve_alloc HE.out fun wq25 HE2 h hb=>?_
     replace H6:=Lib.hid (H6.out.kept hb H6.out.1)
     replace HE:=Lib.hid HE2
     have H5:=Lib.hid h
     clear hb hHeld HE2 h
     refine hK.out _ _ HE.out.r (fun hHeld=>?_)
     clear hK K
     try simp only [Act.put,p1,p2,p3]
     refine cl 5 rfl fun K hK=>?_
     go_simp
     refine (ncut_any 2 x.v x.A x.c x.B x.d _).mono ?_
     rintro e wq26 ⟨rfl,hb⟩
     replace HE:=Lib.hid (HE.out.kept hb)
     replace H5:=Lib.hid (H5.out.kept hb H5.out.1)
     replace H6:=Lib.hid (H6.out.kept hb H6.out.1)
     clear hb hHeld
     refine hK.out _ _ HE.out.r (fun hHeld=>?_)
     clear hK K
     try simp only [Act.put,p1,p2,p3]
     refine cl 8 rfl fun K hK=>?_
     obtain ⟨z1,z2,s0,s1,s2,s3,s4,s5⟩:=H5.out
     go_simp
     refine ve_store HE.out (show w.heap.size+3≤wq20.heap.size by omega) fun wq27 HE2 hs hn=>?_
     replace HE:=Lib.hid HE2
     replace H5:=Lib.hid (hs H5.out)
     replace H6:=Lib.hid (hn hne.symm H6.out)
     clear HE2 hs hn hHeld z1 z2 s0 s1 s2 s3 s4 s5
     refine hK.out _ _ HE.out.r (fun hHeld=>?_)
     clear hK K
     try simp only [Act.put,p1,p2,p3]
     refine cl 9 rfl fun K hK=>?_
     obtain ⟨z1,z2,s0,s1,s2,s3,s4,s5⟩:=H6.out
     go_simp
     refine ve_store HE.out (show w.heap.size+3≤wq1.heap.size by omega) fun wq28 HE2 hs hn=>?_
     replace HE:=Lib.hid HE2
     replace H6:=Lib.hid (hs H6.out)
     replace H5:=Lib.hid (hn hne H5.out)
     clear HE2 hs hn hHeld z1 z2 s0 s1 s2 s3 s4 s5
     refine hK.out _ _ HE.out.r (fun hHeld=>?_)
     clear hK K
     try simp only [Act.put,p1,p2,p3]
     refine wpAnyH_done (by kernel_rfl) ?_ _
     go_wp2
     go_meet
     exact ⟨_,_,rfl,rfl,H5.out,H6.out,HE.out.r,HE.out.l,HE.out.h,HE.out.bel⟩
  ·go_simp
   have hp5:w.heap.size+2<W1.heap.size:=HE.out.h.1
   refine ve_alloc HE.out fun wq29 HE2 h hb=>?_
   replace HE:=Lib.hid HE2
   have H5:=Lib.hid h
   clear hb hHeld HE2 h
   refine hK.out _ _ HE.out.r (fun hHeld=>?_)
   clear hK K
   try simp only [Act.put,p1,p2,p3]
   refine wpAnyH_ready (rs:=[2,7]) (by kernel_rfl) (by simp) ?_
   refine AllReadyH.cons (nth_ops (i:=2) rfl) (fun K hK=>?_) (AllReadyH.cons (nth_ops (i:=7) rfl) (fun K hK=>?_) AllReadyH.nil)
   ·go_simp
    refine (ncut_any 1 x.v x.A x.c x.B x.d _).mono ?_
    rintro e wq30 ⟨rfl,hb⟩
    replace HE:=Lib.hid (HE.out.kept hb)
    replace H5:=Lib.hid (H5.out.kept hb H5.out.1)
    clear hb hHeld
    refine hK.out _ _ HE.out.r (fun hHeld=>?_)
    clear hK K
    try simp only [Act.put,p1,p2,p3]
    refine wpAnyH_ready (rs:=[5,7]) (by kernel_rfl) (by simp) ?_
    refine AllReadyH.cons (nth_ops (i:=5) rfl) (fun K hK=>?_) (AllReadyH.cons (nth_ops (i:=7) rfl) (fun K hK=>?_) AllReadyH.nil)
    ·go_simp
     refine (ncut_any 2 x.v x.A x.c x.B x.d _).mono ?_
     rintro e wq31 ⟨rfl,hb⟩
     replace HE:=Lib.hid (HE.out.kept hb)
     replace H5:=Lib.hid (H5.out.kept hb H5.out.1)
     clear hb hHeld
     refine hK.out _ _ HE.out.r (fun hHeld=>?_)
     clear hK K
     try simp only [Act.put,p1,p2,p3]
     refine cl 7 rfl fun K hK=>?_
     go_simp
     have hne:W1.heap.size≠wq31.heap.size:=Nat.ne_of_lt H5.out.1
     have hp6:w.heap.size+2<wq31.heap.size:=HE.out.h.1
     refine ve_alloc HE.out fun wq32 HE2 h hb=>?_
     replace H5:=Lib.hid (H5.out.kept hb H5.out.1)
     replace HE:=Lib.hid HE2
     have H6:=Lib.hid h
     clear hb hHeld HE2 h
     refine hK.out _ _ HE.out.r (fun hHeld=>?_)
     clear hK K
     try simp only [Act.put,p1,p2,p3]
     refine cl 8 rfl fun K hK=>?_
     obtain ⟨z1,z2,s0,s1,s2,s3,s4,s5⟩:=H5.out
     go_simp
     refine ve_store HE.out (show w.heap.size+3≤W1.heap.size by omega) fun wq33 HE2 hs hn=>?_
     replace HE:=Lib.hid HE2
     replace H5:=Lib.hid (hs H5.out)
     replace H6:=Lib.hid (hn hne.symm H6.out)
     clear HE2 hs hn hHeld z1 z2 s0 s1 s2 s3 s4 s5
     refine hK.out _ _ HE.out.r (fun hHeld=>?_)
     clear hK K
     try simp only [Act.put,p1,p2,p3]
     refine cl 9 rfl fun K hK=>?_
     obtain ⟨z1,z2,s0,s1,s2,s3,s4,s5⟩:=H6.out
     go_simp
     refine ve_store HE.out (show w.heap.size+3≤wq31.heap.size by omega) fun wq34 HE2 hs hn=>?_
     replace HE:=Lib.hid HE2
     replace H6:=Lib.hid (hs H6.out)
     replace H5:=Lib.hid (hn hne H5.out)
     clear HE2 hs hn hHeld z1 z2 s0 s1 s2 s3 s4 s5
     refine hK.out _ _ HE.out.r (fun hHeld=>?_)
     clear hK K
     try simp only [Act.put,p1,p2,p3]
     refine wpAnyH_done (by kernel_rfl) ?_ _
     go_wp2
     go_meet
     exact ⟨_,_,rfl,rfl,H5.out,H6.out,HE.out.r,HE.out.l,HE.out.h,HE.out.bel⟩
    ·go_simp
     have hne:W1.heap.size≠wq30.heap.size:=Nat.ne_of_lt H5.out.1
     have hp6:w.heap.size+2<wq30.heap.size:=HE.out.h.1
     refine ve_alloc HE.out fun wq35 HE2 h hb=>?_
     replace H5:=Lib.hid (H5.out.kept hb H5.out.1)
     replace HE:=Lib.hid HE2
     have H6:=Lib.hid h
     clear hb hHeld HE2 h
     refine hK.out _ _ HE.out.r (fun hHeld=>?_)
     clear hK K
     try simp only [Act.put,p1,p2,p3]
     refine cl 5 rfl fun K hK=>?_
     go_simp
     refine (ncut_any 2 x.v x.A x.c x.B x.d _).mono ?_
     rintro e wq36 ⟨rfl,hb⟩
     replace HE:=Lib.hid (HE.out.kept hb)
     replace H5:=Lib.hid (H5.out.kept hb H5.out.1)
     replace H6:=Lib.hid (H6.out.kept hb H6.out.1)
     clear hb hHeld
     refine hK.out _ _ HE.out.r (fun hHeld=>?_)
     clear hK K
     try simp only [Act.put,p1,p2,p3]
     refine cl 8 rfl fun K hK=>?_
     obtain ⟨z1,z2,s0,s1,s2,s3,s4,s5⟩:=H5.out
     go_simp
     refine ve_store HE.out (show w.heap.size+3≤W1.heap.size by omega) fun wq37 HE2 hs hn=>?_
     replace HE:=Lib.hid HE2
     replace H5:=Lib.hid (hs H5.out)
     replace H6:=Lib.hid (hn hne.symm H6.out)
     clear HE2 hs hn hHeld z1 z2 s0 s1 s2 s3 s4 s5
     refine hK.out _ _ HE.out.r (fun hHeld=>?_)
     clear hK K
     try simp only [Act.put,p1,p2,p3]
     refine cl 9 rfl fun K hK=>?_
     obtain ⟨z1,z2,s0,s1,s2,s3,s4,s5⟩:=H6.out
     go_simp
     refine ve_store HE.out (show w.heap.size+3≤wq30.heap.size by omega) fun wq38 HE2 hs hn=>?_
     replace HE:=Lib.hid HE2
     replace H6:=Lib.hid (hs H6.out)
     replace H5:=Lib.hid (hn hne H5.out)
     clear HE2 hs hn hHeld z1 z2 s0 s1 s2 s3 s4 s5
     refine hK.out _ _ HE.out.r (fun hHeld=>?_)
     clear hK K
     try simp only [Act.put,p1,p2,p3]
     refine wpAnyH_done (by kernel_rfl) ?_ _
     go_wp2
     go_meet
     exact ⟨_,_,rfl,rfl,H5.out,H6.out,HE.out.r,HE.out.l,HE.out.h,HE.out.bel⟩
   ·go_simp
    have hne:W1.heap.size≠wq29.heap.size:=Nat.ne_of_lt H5.out.1
    have hp6:w.heap.size+2<wq29.heap.size:=HE.out.h.1
    refine ve_alloc HE.out fun wq39 HE2 h hb=>?_
    replace H5:=Lib.hid (H5.out.kept hb H5.out.1)
    replace HE:=Lib.hid HE2
    have H6:=Lib.hid h
    clear hb hHeld HE2 h
    refine hK.out _ _ HE.out.r (fun hHeld=>?_)
    clear hK K
    try simp only [Act.put,p1,p2,p3]
    refine cl 2 rfl fun K hK=>?_
    go_simp
    refine (ncut_any 1 x.v x.A x.c x.B x.d _).mono ?_
    rintro e wq40 ⟨rfl,hb⟩
    replace HE:=Lib.hid (HE.out.kept hb)
    replace H5:=Lib.hid (H5.out.kept hb H5.out.1)
    replace H6:=Lib.hid (H6.out.kept hb H6.out.1)
    clear hb hHeld
    refine hK.out _ _ HE.out.r (fun hHeld=>?_)
    clear hK K
    try simp only [Act.put,p1,p2,p3]
    refine cl 5 rfl fun K hK=>?_
    go_simp
    refine (ncut_any 2 x.v x.A x.c x.B x.d _).mono ?_
    rintro e wq41 ⟨rfl,hb⟩
    replace HE:=Lib.hid (HE.out.kept hb)
    replace H5:=Lib.hid (H5.out.kept hb H5.out.1)
    replace H6:=Lib.hid (H6.out.kept hb H6.out.1)
    clear hb hHeld
    refine hK.out _ _ HE.out.r (fun hHeld=>?_)
    clear hK K
    try simp only [Act.put,p1,p2,p3]
    refine cl 8 rfl fun K hK=>?_
    obtain ⟨z1,z2,s0,s1,s2,s3,s4,s5⟩:=H5.out
    go_simp
    refine ve_store HE.out (show w.heap.size+3≤W1.heap.size by omega) fun wq42 HE2 hs hn=>?_
    replace HE:=Lib.hid HE2
    replace H5:=Lib.hid (hs H5.out)
    replace H6:=Lib.hid (hn hne.symm H6.out)
    clear HE2 hs hn hHeld z1 z2 s0 s1 s2 s3 s4 s5
    refine hK.out _ _ HE.out.r (fun hHeld=>?_)
    clear hK K
    try simp only [Act.put,p1,p2,p3]
    refine cl 9 rfl fun K hK=>?_
    obtain ⟨z1,z2,s0,s1,s2,s3,s4,s5⟩:=H6.out
    go_simp
    refine ve_store HE.out (show w.heap.size+3≤wq29.heap.size by omega) fun wq43 HE2 hs hn=>?_
    replace HE:=Lib.hid HE2
    replace H6:=Lib.hid (hs H6.out)
    replace H5:=Lib.hid (hn hne H5.out)
    clear HE2 hs hn hHeld z1 z2 s0 s1 s2 s3 s4 s5
    refine hK.out _ _ HE.out.r (fun hHeld=>?_)
    clear hK K
    try simp only [Act.put,p1,p2,p3]
    refine wpAnyH_done (by kernel_rfl) ?_ _
    go_wp2
    go_meet
    exact ⟨_,_,rfl,rfl,H5.out,H6.out,HE.out.r,HE.out.l,HE.out.h,HE.out.bel⟩
  ·go_simp
   have hp6:w.heap.size+2<W1.heap.size:=HE.out.h.1
   refine ve_alloc HE.out fun wq44 HE2 h hb=>?_
   replace HE:=Lib.hid HE2
   have H6:=Lib.hid h
   clear hb hHeld HE2 h
   refine hK.out _ _ HE.out.r (fun hHeld=>?_)
   clear hK K
   try simp only [Act.put,p1,p2,p3]
   refine wpAnyH_ready (rs:=[2,6]) (by kernel_rfl) (by simp) ?_
   refine AllReadyH.cons (nth_ops (i:=2) rfl) (fun K hK=>?_) (AllReadyH.cons (nth_ops (i:=6) rfl) (fun K hK=>?_) AllReadyH.nil)
   ·go_simp
    refine (ncut_any 1 x.v x.A x.c x.B x.d _).mono ?_
    rintro e wq45 ⟨rfl,hb⟩
    replace HE:=Lib.hid (HE.out.kept hb)
    replace H6:=Lib.hid (H6.out.kept hb H6.out.1)
    clear hb hHeld
    refine hK.out _ _ HE.out.r (fun hHeld=>?_)
    clear hK K
    try simp only [Act.put,p1,p2,p3]
    refine wpAnyH_ready (rs:=[5,6]) (by kernel_rfl) (by simp) ?_
    refine AllReadyH.cons (nth_ops (i:=5) rfl) (fun K hK=>?_) (AllReadyH.cons (nth_ops (i:=6) rfl) (fun K hK=>?_) AllReadyH.nil)
    ·go_simp
     refine (ncut_any 2 x.v x.A x.c x.B x.d _).mono ?_
     rintro e wq46 ⟨rfl,hb⟩
     replace HE:=Lib.hid (HE.out.kept hb)
     replace H6:=Lib.hid (H6.out.kept hb H6.out.1)
     clear hb hHeld
     refine hK.out _ _ HE.out.r (fun hHeld=>?_)
     clear hK K
     try simp only [Act.put,p1,p2,p3]
     refine cl 6 rfl fun K hK=>?_
     go_simp
     have hne:wq46.heap.size≠W1.heap.size:=Nat.ne_of_gt H6.out.1
     have hp5:w.heap.size+2<wq46.heap.size:=HE.out.h.1
     refine ve_alloc HE.out fun wq47 HE2 h hb=>?_
     replace H6:=Lib.hid (H6.out.kept hb H6.out.1)
     replace HE:=Lib.hid HE2
     have H5:=Lib.hid h
     clear hb hHeld HE2 h
     refine hK.out _ _ HE.out.r (fun hHeld=>?_)
     clear hK K
     try simp only [Act.put,p1,p2,p3]
     refine cl 8 rfl fun K hK=>?_
     obtain ⟨z1,z2,s0,s1,s2,s3,s4,s5⟩:=H5.out
     go_simp
     refine ve_store HE.out (show w.heap.size+3≤wq46.heap.size by omega) fun wq48 HE2 hs hn=>?_
     replace HE:=Lib.hid HE2
     replace H5:=Lib.hid (hs H5.out)
     replace H6:=Lib.hid (hn hne.symm H6.out)
     clear HE2 hs hn hHeld z1 z2 s0 s1 s2 s3 s4 s5
     refine hK.out _ _ HE.out.r (fun hHeld=>?_)
     clear hK K
     try simp only [Act.put,p1,p2,p3]
     refine cl 9 rfl fun K hK=>?_
     obtain ⟨z1,z2,s0,s1,s2,s3,s4,s5⟩:=H6.out
     go_simp
     refine ve_store HE.out (show w.heap.size+3≤W1.heap.size by omega) fun wq49 HE2 hs hn=>?_
     replace HE:=Lib.hid HE2
     replace H6:=Lib.hid (hs H6.out)
     replace H5:=Lib.hid (hn hne H5.out)
     clear HE2 hs hn hHeld z1 z2 s0 s1 s2 s3 s4 s5
     refine hK.out _ _ HE.out.r (fun hHeld=>?_)
     clear hK K
     try simp only [Act.put,p1,p2,p3]
     refine wpAnyH_done (by kernel_rfl) ?_ _
     go_wp2
     go_meet
     exact ⟨_,_,rfl,rfl,H5.out,H6.out,HE.out.r,HE.out.l,HE.out.h,HE.out.bel⟩
    ·go_simp
     have hne:wq45.heap.size≠W1.heap.size:=Nat.ne_of_gt H6.out.1
     have hp5:w.heap.size+2<wq45.heap.size:=HE.out.h.1
     refine ve_alloc HE.out fun wq50 HE2 h hb=>?_
     replace H6:=Lib.hid (H6.out.kept hb H6.out.1)
     replace HE:=Lib.hid HE2
     have H5:=Lib.hid h
     clear hb hHeld HE2 h
     refine hK.out _ _ HE.out.r (fun hHeld=>?_)
     clear hK K
     try simp only [Act.put,p1,p2,p3]
     refine cl 5 rfl fun K hK=>?_
     go_simp
     refine (ncut_any 2 x.v x.A x.c x.B x.d _).mono ?_
     rintro e wq51 ⟨rfl,hb⟩
     replace HE:=Lib.hid (HE.out.kept hb)
     replace H5:=Lib.hid (H5.out.kept hb H5.out.1)
     replace H6:=Lib.hid (H6.out.kept hb H6.out.1)
     clear hb hHeld
     refine hK.out _ _ HE.out.r (fun hHeld=>?_)
     clear hK K
     try simp only [Act.put,p1,p2,p3]
     refine cl 8 rfl fun K hK=>?_
     obtain ⟨z1,z2,s0,s1,s2,s3,s4,s5⟩:=H5.out
     go_simp
     refine ve_store HE.out (show w.heap.size+3≤wq45.heap.size by omega) fun wq52 HE2 hs hn=>?_
     replace HE:=Lib.hid HE2
     replace H5:=Lib.hid (hs H5.out)
     replace H6:=Lib.hid (hn hne.symm H6.out)
     clear HE2 hs hn hHeld z1 z2 s0 s1 s2 s3 s4 s5
     refine hK.out _ _ HE.out.r (fun hHeld=>?_)
     clear hK K
     try simp only [Act.put,p1,p2,p3]
     refine cl 9 rfl fun K hK=>?_
     obtain ⟨z1,z2,s0,s1,s2,s3,s4,s5⟩:=H6.out
     go_simp
     refine ve_store HE.out (show w.heap.size+3≤W1.heap.size by omega) fun wq53 HE2 hs hn=>?_
     replace HE:=Lib.hid HE2
     replace H6:=Lib.hid (hs H6.out)
     replace H5:=Lib.hid (hn hne H5.out)
     clear HE2 hs hn hHeld z1 z2 s0 s1 s2 s3 s4 s5
     refine hK.out _ _ HE.out.r (fun hHeld=>?_)
     clear hK K
     try simp only [Act.put,p1,p2,p3]
     refine wpAnyH_done (by kernel_rfl) ?_ _
     go_wp2
     go_meet
     exact ⟨_,_,rfl,rfl,H5.out,H6.out,HE.out.r,HE.out.l,HE.out.h,HE.out.bel⟩
   ·go_simp
    have hne:wq44.heap.size≠W1.heap.size:=Nat.ne_of_gt H6.out.1
    have hp5:w.heap.size+2<wq44.heap.size:=HE.out.h.1
    refine ve_alloc HE.out fun wq54 HE2 h hb=>?_
    replace H6:=Lib.hid (H6.out.kept hb H6.out.1)
    replace HE:=Lib.hid HE2
    have H5:=Lib.hid h
    clear hb hHeld HE2 h
    refine hK.out _ _ HE.out.r (fun hHeld=>?_)
    clear hK K
    try simp only [Act.put,p1,p2,p3]
    refine cl 2 rfl fun K hK=>?_
    go_simp
    refine (ncut_any 1 x.v x.A x.c x.B x.d _).mono ?_
    rintro e wq55 ⟨rfl,hb⟩
    replace HE:=Lib.hid (HE.out.kept hb)
    replace H5:=Lib.hid (H5.out.kept hb H5.out.1)
    replace H6:=Lib.hid (H6.out.kept hb H6.out.1)
    clear hb hHeld
    refine hK.out _ _ HE.out.r (fun hHeld=>?_)
    clear hK K
    try simp only [Act.put,p1,p2,p3]
    refine cl 5 rfl fun K hK=>?_
    go_simp
    refine (ncut_any 2 x.v x.A x.c x.B x.d _).mono ?_
    rintro e wq56 ⟨rfl,hb⟩
    replace HE:=Lib.hid (HE.out.kept hb)
    replace H5:=Lib.hid (H5.out.kept hb H5.out.1)
    replace H6:=Lib.hid (H6.out.kept hb H6.out.1)
    clear hb hHeld
    refine hK.out _ _ HE.out.r (fun hHeld=>?_)
    clear hK K
    try simp only [Act.put,p1,p2,p3]
    refine cl 8 rfl fun K hK=>?_
    obtain ⟨z1,z2,s0,s1,s2,s3,s4,s5⟩:=H5.out
    go_simp
    refine ve_store HE.out (show w.heap.size+3≤wq44.heap.size by omega) fun wq57 HE2 hs hn=>?_
    replace HE:=Lib.hid HE2
    replace H5:=Lib.hid (hs H5.out)
    replace H6:=Lib.hid (hn hne.symm H6.out)
    clear HE2 hs hn hHeld z1 z2 s0 s1 s2 s3 s4 s5
    refine hK.out _ _ HE.out.r (fun hHeld=>?_)
    clear hK K
    try simp only [Act.put,p1,p2,p3]
    refine cl 9 rfl fun K hK=>?_
    obtain ⟨z1,z2,s0,s1,s2,s3,s4,s5⟩:=H6.out
    go_simp
    refine ve_store HE.out (show w.heap.size+3≤W1.heap.size by omega) fun wq58 HE2 hs hn=>?_
    replace HE:=Lib.hid HE2
    replace H6:=Lib.hid (hs H6.out)
    replace H5:=Lib.hid (hn hne H5.out)
    clear HE2 hs hn hHeld z1 z2 s0 s1 s2 s3 s4 s5
    refine hK.out _ _ HE.out.r (fun hHeld=>?_)
    clear hK K
    try simp only [Act.put,p1,p2,p3]
    refine wpAnyH_done (by kernel_rfl) ?_ _
    go_wp2
    go_meet
    exact ⟨_,_,rfl,rfl,H5.out,H6.out,HE.out.r,HE.out.l,HE.out.h,HE.out.bel⟩
 case rest =>
  obtain ⟨p5,p6,rfl,rfl,h5,h6,hr,hl,hh,hb⟩:=hcut
  replace HB:=Lib.hid hb
  replace HR:=Lib.hid hr
  replace HL:=Lib.hid hl
  replace HH:=Lib.hid hh
  have H5:=Lib.hid h5
  have H6:=Lib.hid h6
  have HV:Hid (SRow wc x.A x.v.pre.length x.v.pre):=HRow.out.kept HB.out
  clear hb hr hl hh h5 h6
  obtain ⟨y1,y2,c0,c1,c2,c3,c4,c5,c6⟩:=HR.out
  have hk9:x.kind=0∨(goodV x.v=true∧(x.kind=1∨x.kind=2∨x.kind=3∨x.kind=4∨x.kind=5∨x.kind=6∨x.kind=7∨x.kind=8)):=by
   rcases hk with h | ⟨h1,h2,h3⟩
   ·exact .inl h
   ·exact .inr ⟨h3,by omega⟩
  clear hk HG
  rcases hk9 with hk | ⟨hg,hk⟩
  rotate_left
  have HG:=Lib.hid hg
  clear hg
  rcases hk with hk | hk | hk | hk | hk | hk | hk | hk
  ·have hks:x.kind=1:=hk
   rw [hks] at c0
   have HK:=Lib.hid hks
   clear hk hks
   obtain ⟨_,_,a0,a1,a2,a3,a4,a5⟩:=H5.out
   obtain ⟨_,_,b0,b1,b2,b3,b4,b5⟩:=HH.out
   go_wp2_with fail
   refine (between_any ⟨1,bare x.v,x.A,x.c,none,0⟩ rhigh _ ⟨HV.out,SRow.none_ _ _,HF.out,Fit.nil⟩ (Span.Lies.high _)).mono ?_
   intro e w3 h3
   have HS:Hid (SetIn w 2 (SetOf (.mk x.kind x.v [])) e w3):=setIn_imp (h3.mono HB.out) (fun o ho=>by rw [HK.out]; exact set_span (k:=1) (by omega) (by omega) (by omega) (.inr HG.out) [] ho) (by omega)
   obtain ⟨A3,n3,cc3,out,rfl,q1,q2,q3,q4,q5,q6,q7⟩:=HS.out
   clear h3
   go_wp2
   go_ret
   exact HS.out
  ·have hks:x.kind=2:=hk
   rw [hks] at c0
   have HK:=Lib.hid hks
   clear hk hks
   obtain ⟨_,_,a0,a1,a2,a3,a4,a5⟩:=H6.out
   obtain ⟨_,_,b0,b1,b2,b3,b4,b5⟩:=HH.out
   go_wp2_with fail
   refine (between_any ⟨2,bare x.v,x.A,x.c,none,0⟩ rhigh _ ⟨HV.out,SRow.none_ _ _,HF.out,Fit.nil⟩ (Span.Lies.high _)).mono ?_
   intro e w3 h3
   have HS:Hid (SetIn w 2 (SetOf (.mk x.kind x.v [])) e w3):=setIn_imp (h3.mono HB.out) (fun o ho=>by rw [HK.out]; exact set_span (k:=2) (by omega) (by omega) (by omega) (.inr HG.out) [] ho) (by omega)
   obtain ⟨A3,n3,cc3,out,rfl,q1,q2,q3,q4,q5,q6,q7⟩:=HS.out
   clear h3
   go_wp2
   go_ret
   exact HS.out
  ·have hks:x.kind=3:=hk
   rw [hks] at c0
   have HK:=Lib.hid hks
   clear hk hks
   obtain ⟨_,_,a0,a1,a2,a3,a4,a5⟩:=HL.out
   obtain ⟨_,_,b0,b1,b2,b3,b4,b5⟩:=H6.out
   go_wp2_with fail
   refine (between_any rlow ⟨2,bare x.v,x.A,x.c,none,0⟩ _ (Span.Lies.low _) ⟨HV.out,SRow.none_ _ _,HF.out,Fit.nil⟩).mono ?_
   intro e w3 h3
   have HS:Hid (SetIn w 2 (SetOf (.mk x.kind x.v [])) e w3):=setIn_imp (h3.mono HB.out) (fun o ho=>by rw [HK.out]; exact set_span (k:=3) (by omega) (by omega) (by omega) (.inr HG.out) [] ho) (by omega)
   obtain ⟨A3,n3,cc3,out,rfl,q1,q2,q3,q4,q5,q6,q7⟩:=HS.out
   clear h3
   go_wp2
   go_ret
   exact HS.out
  ·have hks:x.kind=4:=hk
   rw [hks] at c0
   have HK:=Lib.hid hks
   clear hk hks
   obtain ⟨_,_,a0,a1,a2,a3,a4,a5⟩:=HL.out
   obtain ⟨_,_,b0,b1,b2,b3,b4,b5⟩:=H5.out
   go_wp2_with fail
   refine (between_any rlow ⟨1,bare x.v,x.A,x.c,none,0⟩ _ (Span.Lies.low _) ⟨HV.out,SRow.none_ _ _,HF.out,Fit.nil⟩).mono ?_
   intro e w3 h3
   have HS:Hid (SetIn w 2 (SetOf (.mk x.kind x.v [])) e w3):=setIn_imp (h3.mono HB.out) (fun o ho=>by rw [HK.out]; exact set_span (k:=4) (by omega) (by omega) (by omega) (.inr HG.out) [] ho) (by omega)
   obtain ⟨A3,n3,cc3,out,rfl,q1,q2,q3,q4,q5,q6,q7⟩:=HS.out
   clear h3
   go_wp2
   go_ret
   exact HS.out
  ·have hks:x.kind=5:=hk
   rw [hks] at c0
   have HK:=Lib.hid hks
   clear hk hks
   obtain ⟨_,_,a0,a1,a2,a3,a4,a5⟩:=H5.out
   obtain ⟨_,_,b0,b1,b2,b3,b4,b5⟩:=H6.out
   go_wp2_with fail
   refine (between_any ⟨1,bare x.v,x.A,x.c,none,0⟩ ⟨2,bare x.v,x.A,x.c,none,0⟩ _ ⟨HV.out,SRow.none_ _ _,HF.out,Fit.nil⟩ ⟨HV.out,SRow.none_ _ _,HF.out,Fit.nil⟩).mono ?_
   intro e w3 h3
   have HS:Hid (SetIn w 2 (SetOf (.mk x.kind x.v [])) e w3):=setIn_imp (h3.mono HB.out) (fun o ho=>by rw [HK.out]; exact set_span (k:=5) (by omega) (by omega) (by omega) (.inr HG.out) [] ho) (by omega)
   obtain ⟨A3,n3,cc3,out,rfl,q1,q2,q3,q4,q5,q6,q7⟩:=HS.out
   clear h3
   go_wp2
   go_ret
   exact HS.out
  ·have hks:x.kind=6:=hk
   rw [hks] at c0
   have HK:=Lib.hid hks
   clear hk hks
   obtain ⟨_,_,a0,a1,a2,a3,a4,a5⟩:=H5.out
   obtain ⟨_,_,b0,b1,b2,b3,b4,b5⟩:=H6.out
   go_wp2_with fail
   refine (between_any ⟨1,bare x.v,x.A,x.c,none,0⟩ ⟨2,bare x.v,x.A,x.c,none,0⟩ _ ⟨HV.out,SRow.none_ _ _,HF.out,Fit.nil⟩ ⟨HV.out,SRow.none_ _ _,HF.out,Fit.nil⟩).mono ?_
   rintro e w3 ⟨A3,n3,cc3,out,rfl,q1,q2,q3,q4,q5,q6,hb⟩
   have HQ1:=Lib.hid q1
   have HQ3:=Lib.hid q3
   have HB3:=Lib.hid (HB.out.trans (hb.mono HB.out.size))
   clear q1 q3 q4 q5 q6 hb a0 a1 a2 a3 a4 a5 b0 b1 b2 b3 b4 b5 c0 c1 c2 c3 c4 c5 c6
   go_wp2_with fail
   refine (not_in A3 n3 cc3 out _ HQ1.out (by omega)).mono ?_
   intro e w4 h4
   have HS:Hid (SetIn w 2 (SetOf (.mk x.kind x.v [])) e w4):=setIn_imp (h4.mono HB3.out) (fun o ho=>by rw [HK.out]; exact set_ne HG.out [] HQ3.out ho) (by omega)
   obtain ⟨A4,n4,cc4,out4,rfl,q1,q2,q3,q4,q5,q6,q7⟩:=HS.out
   clear h4
   go_wp2
   go_ret
   exact HS.out
  ·have hks:x.kind=7:=hk
   rw [hks] at c0
   have HK:=Lib.hid hks
   clear hk hks
   go_upto_region 17 with (fail)
   have HBd:Hid (Below w.heap.size w wc.drew):=HB.out.drew
   have HRd:Hid (RAt wc.drew w.heap.size x):=HR.out
   have H5d:Hid (At6B wc.drew p5 (.int .i64 1) x.v.a x.v.b x.v.c (.slice x.A x.v.pre.length x.c) (.slice none 0 0)):=H5.out
   clear HB HR HL HH H5 H6 c0 c1 c2 c3 c4 c5 c6
   refine wp_region_held_drew (S:=fun w'=>RAt w' w.heap.size x∧At6B w' p5 (.int .i64 1) x.v.a x.v.b x.v.c (.slice x.A x.v.pre.length x.c) (.slice none 0 0)) (by kernel_rfl) ⟨HRd.out,H5d.out⟩ (fun hHeld=>?_)
   refine tk 0 rfl (.agg #[.int .i64 1,x.v.a,x.v.b,x.v.c,.slice x.A x.v.pre.length x.c,.slice none 0 0]) ?_ fun w' hS'=>by obtain ⟨_,_,a0,a1,a2,a3,a4,a5⟩:=hS'.2; go_simp
   refine tk 1 rfl (.pointer (some ⟨w.heap.size,1,none⟩)) ?_
   refine tk 2 rfl (.agg #[x.v.a,x.v.b,x.v.c,.slice x.A x.v.pre.length x.c,.slice x.B x.v.build.length x.d]) ?_ fun w' hS'=>by obtain ⟨y1,y2,c0,c1,c2,c3,c4,c5,c6⟩:=hS'.1; go_simp
   refine cl 3 rfl fun K hK=>?_
   go_simp
   refine (caret_any x.v x.A x.c x.B x.d _).mono ?_
   rintro e wm1 ⟨A9,c9,rfl,hr9,hb9,hb⟩
   have HB1:=Lib.hid (HBd.out.trans (hb.mono HBd.out.size))
   have HR1:=Lib.hid (HRd.out.kept hb HRd.out.1)
   have H51:=Lib.hid (H5d.out.kept hb H5d.out.1)
   have HS9:=Lib.hid hr9
   have HZ9:=Lib.hid hb9
   clear hr9 hb9
   clear hb hHeld
   refine hK.out _ _ ⟨HR1.out,H51.out⟩ (fun hHeld=>?_)
   clear hK K
   try simp only [Act.put,p1,p2,p3]
   refine tk 4 rfl (.agg #[.int .u64 ((verOf (caretV x.v)).a:Int),.int .u64 ((verOf (caretV x.v)).b:Int),.int .u64 ((verOf (caretV x.v)).c:Int),.slice A9 (verOf (caretV x.v)).pre.length c9,.slice none (verOf (caretV x.v)).build.length 0]) ?_
   refine tk 5 rfl (.bool (caretV x.v).isSome) ?_
   refine cl 6 rfl fun K hK=>?_
   go_simp
   refine (nend_any (caretV x.v) A9 c9 _ HS9.out (end_fit _ _ _ _) HZ9.out).mono ?_
   rintro e wm2 ⟨z,rfl,hzc,hzl,hb⟩
   have HB2:=Lib.hid (HB1.out.trans (hb.mono HB1.out.size))
   have HR2:=Lib.hid (HR1.out.kept hb HR1.out.1)
   have H52:=Lib.hid (H51.out.kept hb H51.out.1)
   have HZC:=Lib.hid hzc
   have HZL:=Lib.hid hzl
   clear hzc hzl
   clear hb hHeld
   refine hK.out _ _ ⟨HR2.out,H52.out⟩ (fun hHeld=>?_)
   clear hK K
   try simp only [Act.put,p1,p2,p3]
   refine cl 7 rfl fun K hK=>?_
   go_simp
   refine (between_any ⟨1,bare x.v,x.A,x.c,none,0⟩ z _ ⟨HRow.out.kept HB2.out,SRow.none_ _ _,HF.out,Fit.nil⟩ HZL.out).mono ?_
   rintro e wm3 ⟨A3,n3,cc3,out,rfl,q1,q2,q3,q4,q5,q6,hb⟩
   have HR3:=Lib.hid (HR2.out.kept hb HR2.out.1)
   have H53:=Lib.hid (H52.out.kept hb H52.out.1)
   have HB3:=Lib.hid (HB2.out.trans (hb.mono HB2.out.size))
   rw [show (RCut.mk 1 (bare x.v) x.A x.c none 0).cut=loOf 7 x.v from rfl,show z.cut=hiOf 7 x.v from HZC.out] at q3
   have HQ:Hid (SetIn w 2 (SetOf (.mk x.kind x.v [])) (.returned (.slice A3 n3 cc3)) wm3):=⟨A3,n3,cc3,out,rfl,q1,Nat.le_trans q2 (by omega),by rw [HK.out]; exact set_span (k:=7) (by omega) (by omega) (by omega) (.inr HG.out) [] q3,fun s hs=>(q4 s hs).mono HB2.out.size,q5,q6,HB3.out⟩
   clear q1 q2 q3 q4 q5 q6
   clear hb hHeld
   refine hK.out _ _ ⟨HR3.out,H53.out⟩ (fun hHeld=>?_)
   clear hK K
   try simp only [Act.put,p1,p2,p3]
   refine tk 8 rfl (.slice A3 n3 cc3) ?_
   refine wpAnyH_done (by kernel_rfl) ?_ _
   go_wp2
   go_ret
   exact HQ.out
  ·have hks:x.kind=8:=hk
   rw [hks] at c0
   have HK:=Lib.hid hks
   clear hk hks
   go_upto_region 19 with (fail)
   have HBd:Hid (Below w.heap.size w wc.drew):=HB.out.drew
   have HRd:Hid (RAt wc.drew w.heap.size x):=HR.out
   have H5d:Hid (At6B wc.drew p5 (.int .i64 1) x.v.a x.v.b x.v.c (.slice x.A x.v.pre.length x.c) (.slice none 0 0)):=H5.out
   clear HB HR HL HH H5 H6 c0 c1 c2 c3 c4 c5 c6
   refine wp_region_held_drew (S:=fun w'=>RAt w' w.heap.size x∧At6B w' p5 (.int .i64 1) x.v.a x.v.b x.v.c (.slice x.A x.v.pre.length x.c) (.slice none 0 0)) (by kernel_rfl) ⟨HRd.out,H5d.out⟩ (fun hHeld=>?_)
   refine tk 0 rfl (.agg #[.int .i64 1,x.v.a,x.v.b,x.v.c,.slice x.A x.v.pre.length x.c,.slice none 0 0]) ?_ fun w' hS'=>by obtain ⟨_,_,a0,a1,a2,a3,a4,a5⟩:=hS'.2; go_simp
   refine tk 1 rfl (.pointer (some ⟨w.heap.size,1,none⟩)) ?_
   refine tk 2 rfl (.agg #[x.v.a,x.v.b,x.v.c,.slice x.A x.v.pre.length x.c,.slice x.B x.v.build.length x.d]) ?_ fun w' hS'=>by obtain ⟨y1,y2,c0,c1,c2,c3,c4,c5,c6⟩:=hS'.1; go_simp
   refine cl 3 rfl fun K hK=>?_
   go_simp
   refine (tilde_any x.v x.A x.c x.B x.d _).mono ?_
   rintro e wm1 ⟨A9,c9,rfl,hr9,hb9,hb⟩
   have HB1:=Lib.hid (HBd.out.trans (hb.mono HBd.out.size))
   have HR1:=Lib.hid (HRd.out.kept hb HRd.out.1)
   have H51:=Lib.hid (H5d.out.kept hb H5d.out.1)
   have HS9:=Lib.hid hr9
   have HZ9:=Lib.hid hb9
   clear hr9 hb9
   clear hb hHeld
   refine hK.out _ _ ⟨HR1.out,H51.out⟩ (fun hHeld=>?_)
   clear hK K
   try simp only [Act.put,p1,p2,p3]
   refine tk 4 rfl (.agg #[.int .u64 ((verOf (tildeV x.v)).a:Int),.int .u64 ((verOf (tildeV x.v)).b:Int),.int .u64 ((verOf (tildeV x.v)).c:Int),.slice A9 (verOf (tildeV x.v)).pre.length c9,.slice none (verOf (tildeV x.v)).build.length 0]) ?_
   refine tk 5 rfl (.bool (tildeV x.v).isSome) ?_
   refine cl 6 rfl fun K hK=>?_
   go_simp
   refine (nend_any (tildeV x.v) A9 c9 _ HS9.out (end_fit _ _ _ _) HZ9.out).mono ?_
   rintro e wm2 ⟨z,rfl,hzc,hzl,hb⟩
   have HB2:=Lib.hid (HB1.out.trans (hb.mono HB1.out.size))
   have HR2:=Lib.hid (HR1.out.kept hb HR1.out.1)
   have H52:=Lib.hid (H51.out.kept hb H51.out.1)
   have HZC:=Lib.hid hzc
   have HZL:=Lib.hid hzl
   clear hzc hzl
   clear hb hHeld
   refine hK.out _ _ ⟨HR2.out,H52.out⟩ (fun hHeld=>?_)
   clear hK K
   try simp only [Act.put,p1,p2,p3]
   refine cl 7 rfl fun K hK=>?_
   go_simp
   refine (between_any ⟨1,bare x.v,x.A,x.c,none,0⟩ z _ ⟨HRow.out.kept HB2.out,SRow.none_ _ _,HF.out,Fit.nil⟩ HZL.out).mono ?_
   rintro e wm3 ⟨A3,n3,cc3,out,rfl,q1,q2,q3,q4,q5,q6,hb⟩
   have HR3:=Lib.hid (HR2.out.kept hb HR2.out.1)
   have H53:=Lib.hid (H52.out.kept hb H52.out.1)
   have HB3:=Lib.hid (HB2.out.trans (hb.mono HB2.out.size))
   rw [show (RCut.mk 1 (bare x.v) x.A x.c none 0).cut=loOf 8 x.v from rfl,show z.cut=hiOf 8 x.v from HZC.out] at q3
   have HQ:Hid (SetIn w 2 (SetOf (.mk x.kind x.v [])) (.returned (.slice A3 n3 cc3)) wm3):=⟨A3,n3,cc3,out,rfl,q1,Nat.le_trans q2 (by omega),by rw [HK.out]; exact set_span (k:=8) (by omega) (by omega) (by omega) (.inr HG.out) [] q3,fun s hs=>(q4 s hs).mono HB2.out.size,q5,q6,HB3.out⟩
   clear q1 q2 q3 q4 q5 q6
   clear hb hHeld
   refine hK.out _ _ ⟨HR3.out,H53.out⟩ (fun hHeld=>?_)
   clear hK K
   try simp only [Act.put,p1,p2,p3]
   refine tk 8 rfl (.slice A3 n3 cc3) ?_
   refine wpAnyH_done (by kernel_rfl) ?_ _
   go_wp2
   go_ret
   exact HQ.out
  ·have hks:x.kind=0:=hk
   rw [hks] at c0
   have HK:=Lib.hid hks
   clear hk hks
   obtain ⟨_,_,a0,a1,a2,a3,a4,a5⟩:=HL.out
   obtain ⟨_,_,b0,b1,b2,b3,b4,b5⟩:=HH.out
   go_wp2_with fail
   refine (between_any rlow rhigh _ (Span.Lies.low _) (Span.Lies.high _)).mono ?_
   intro e w3 h3
   have HS:Hid (SetIn w 2 (SetOf (.mk x.kind x.v [])) e w3):=setIn_imp (h3.mono HB.out) (fun o ho=>by rw [HK.out]; exact set_span (k:=0) (by omega) (by omega) (by omega) (.inl rfl) [] ho) (by omega)
   obtain ⟨A3,n3,cc3,out,rfl,q1,q2,q3,q4,q5,q6,q7⟩:=HS.out
   clear h3
   go_wp2
   go_ret
   exact HS.out
end Go.Proofs.YtgakcdcfblgagaaGreatDoor.Nrm
