/-
  What the theorem of the last text needs of these: NmVer. Conditions: as each theorem states.
-/
import Derived.Test.YtgfbflnhjpbceaaGreatDoorAgaB1
import Derived.Test.YtgfbflnhjpbceaaGreatDoorAgaB22
import Derived.Test.YtgfbflnhjpbceaaGreatDoorAgaB23
import Derived.Deep.CutBlock
import Derived.Deep.DeepCutAuto
import Derived.Deep.RegionHeld3
set_option maxRecDepth 100000
set_option maxHeartbeats 25600000
namespace Go.Proofs.YtgfbflnhjpbceaaGreatDoor.Nrm
open Go.RowKit Num Ident Semver Prec Span
open Range (Rng noRng goodR goodL fits RV RAt)
theorem six_ne {W : World} {b b' : Nat} {u0 u1 u2 u3 u4 u5 : Value} (h : At6B W b u0 u1 u2 u3 u4 u5) (hb : b ≠ b') (v0 v1 v2 v3 v4 v5 : Value) : At6B (Span.set6 W b' v0 v1 v2 v3 v4 v5) b u0 u1 u2 u3 u4 u5 :=
 (((((h.beside hb v0).beside hb v1).beside hb v2).beside hb v3).beside hb v4).beside hb v5
theorem setIn_imp {w : World} {k k' : Nat} {P Q : List Sp → Prop} {e : Ending} {w' : World} (h : SetIn w k P e w') (hPQ : ∀ o, P o → Q o) (hk : k ≤ k') : SetIn w k' Q e w' := by
 obtain ⟨A, n, c, out, h1, h2, h3, h4, h5⟩ := h
 exact ⟨A, n, c, out, h1, h2, Nat.le_trans h3 hk, hPQ _ h4, h5⟩
theorem end_fit (x y z i : Nat) : Fit (verOf (endV x y z i)).pre := by
 have key : ∀ a b c, Fit (verOf (some (firstV a b c))).pre := fun a b c => Fit.zero
 unfold endV
 split
 ·split
  ·exact Fit.nil
  ·exact key _ _ _
 ·split
  ·split
   ·exact Fit.nil
   ·exact key _ _ _
  ·split
   ·exact Fit.nil
   ·exact key _ _ _
theorem nend_any (o : Option Ver) (A : Option Addr) (c : Nat) (w : World) (hr : SRow w A (verOf o).pre.length (verOf o).pre) (hf : Fit (verOf o).pre) (hb : (verOf o).build = []) :
  Calls Tryz.prog 98 #[.agg #[.int .u64 ((verOf o).a : Int), .int .u64 ((verOf o).b : Int), .int .u64 ((verOf o).c : Int), .slice A (verOf o).pre.length c, .slice none (verOf o).build.length 0], .bool o.isSome] w fun e w' =>
   ∃ z : RCut, e = .returned (.agg #[.int .i64 z.kind, .int .u64 (z.v.a : Int), .int .u64 (z.v.b : Int), .int .u64 (z.v.c : Int), .slice z.A z.v.pre.length z.c, .slice z.B z.v.build.length z.d]) ∧ z.cut = endCut o ∧ Span.Lies w' z ∧ Below w.heap.size w w' := by
 cases o with
 | none =>
  exact (nend_no noVer A c none 0 w).mono fun e w' ⟨h1, h2⟩ => ⟨rhigh, h1, rfl, Span.Lies.high _, h2⟩
 | some v =>
  refine (nend_yes v A c none 0 w).mono fun e w' ⟨h1, h2⟩ => ⟨⟨1, bare v, A, c, none, 0⟩, h1, ?_, ⟨hr.kept h2, SRow.none_ _ _, hf, Fit.nil⟩, h2⟩
  show Cut.mk 1 (bare v) = ⟨1, v⟩
  have e : bare v = v := by unfold bare; rw [← show v.build = [] from hb]
  rw [e]
theorem byVer_any (x : RV) (w : World) (hr : SRow w x.A x.v.pre.length x.v.pre) (hf : Fit x.v.pre) (hk : x.kind = 0 ∨ (1 ≤ x.kind ∧ x.kind ≤ 8 ∧ goodV x.v = true)) :
  Calls Tryz.prog 61 #[x.agg] w (SetIn w 2 (SetOf (.mk x.kind x.v []))) := by
 have HRow := Lib.hid hr
 have HF : Hid (Fit x.v.pre) := hf
 have HG : Hid (x.kind = 0 ∨ goodV x.v = true) := hk.elim .inl fun h => .inr h.2.2
 have HB : Hid (Below w.heap.size w (((w.alloc (.cells #[.int .i64 x.kind, .int .u64 (x.v.a : Int), .int .u64 (x.v.b : Int), .int .u64 (x.v.c : Int), .slice x.A x.v.pre.length x.c, .slice x.B x.v.build.length x.d, .slice x.L x.n x.e] 28)).alloc (.cells #[.int .i64 0, .int .u64 0, .int .u64 0, .int .u64 0, .slice none 0 0, .slice none 0 0] 41)).alloc (.cells #[.int .i64 3, .int .u64 0, .int .u64 0, .int .u64 0, .slice none 0 0, .slice none 0 0] 41))) := (((Below.refl _ _).alloc (Nat.le_refl _) _).alloc (by simp) _).alloc (by simp; omega) _
 have HR : Hid (RAt (((w.alloc (.cells #[.int .i64 x.kind, .int .u64 (x.v.a : Int), .int .u64 (x.v.b : Int), .int .u64 (x.v.c : Int), .slice x.A x.v.pre.length x.c, .slice x.B x.v.build.length x.d, .slice x.L x.n x.e] 28)).alloc (.cells #[.int .i64 0, .int .u64 0, .int .u64 0, .int .u64 0, .slice none 0 0, .slice none 0 0] 41)).alloc (.cells #[.int .i64 3, .int .u64 0, .int .u64 0, .int .u64 0, .slice none 0 0, .slice none 0 0] 41)) w.heap.size x) := by
  have h := (RAt.new w 28 x).kept ((Below.refl _ _).alloc (Nat.le_refl _) (.cells #[.int .i64 0, .int .u64 0, .int .u64 0, .int .u64 0, .slice none 0 0, .slice none 0 0] 41)) (by simp)
  exact h.kept ((Below.refl _ _).alloc (Nat.le_refl _) (.cells #[.int .i64 3, .int .u64 0, .int .u64 0, .int .u64 0, .slice none 0 0, .slice none 0 0] 41)) (by simp; omega)
 have HL : Hid (At6B (((w.alloc (.cells #[.int .i64 x.kind, .int .u64 (x.v.a : Int), .int .u64 (x.v.b : Int), .int .u64 (x.v.c : Int), .slice x.A x.v.pre.length x.c, .slice x.B x.v.build.length x.d, .slice x.L x.n x.e] 28)).alloc (.cells #[.int .i64 0, .int .u64 0, .int .u64 0, .int .u64 0, .slice none 0 0, .slice none 0 0] 41)).alloc (.cells #[.int .i64 3, .int .u64 0, .int .u64 0, .int .u64 0, .slice none 0 0, .slice none 0 0] 41)) (w.heap.size + 1) (.int .i64 0) (.int .u64 0) (.int .u64 0) (.int .u64 0) (.slice none 0 0) (.slice none 0 0)) := by
  have h := (At6B.new (w.alloc (.cells #[.int .i64 x.kind, .int .u64 (x.v.a : Int), .int .u64 (x.v.b : Int), .int .u64 (x.v.c : Int), .slice x.A x.v.pre.length x.c, .slice x.B x.v.build.length x.d, .slice x.L x.n x.e] 28)) 41 (.int .i64 0) (.int .u64 0) (.int .u64 0) (.int .u64 0) (.slice none 0 0) (.slice none 0 0)).kept ((Below.refl _ _).alloc (Nat.le_refl _) (.cells #[.int .i64 3, .int .u64 0, .int .u64 0, .int .u64 0, .slice none 0 0, .slice none 0 0] 41)) (by simp)
  rw [size_alloc] at h; exact h
 have HH : Hid (At6B (((w.alloc (.cells #[.int .i64 x.kind, .int .u64 (x.v.a : Int), .int .u64 (x.v.b : Int), .int .u64 (x.v.c : Int), .slice x.A x.v.pre.length x.c, .slice x.B x.v.build.length x.d, .slice x.L x.n x.e] 28)).alloc (.cells #[.int .i64 0, .int .u64 0, .int .u64 0, .int .u64 0, .slice none 0 0, .slice none 0 0] 41)).alloc (.cells #[.int .i64 3, .int .u64 0, .int .u64 0, .int .u64 0, .slice none 0 0, .slice none 0 0] 41)) (w.heap.size + 1 + 1) (.int .i64 3) (.int .u64 0) (.int .u64 0) (.int .u64 0) (.slice none 0 0) (.slice none 0 0)) := by
  have h := At6B.new ((w.alloc (.cells #[.int .i64 x.kind, .int .u64 (x.v.a : Int), .int .u64 (x.v.b : Int), .int .u64 (x.v.c : Int), .slice x.A x.v.pre.length x.c, .slice x.B x.v.build.length x.d, .slice x.L x.n x.e] 28)).alloc (.cells #[.int .i64 0, .int .u64 0, .int .u64 0, .int .u64 0, .slice none 0 0, .slice none 0 0] 41)) 41 (.int .i64 3) (.int .u64 0) (.int .u64 0) (.int .u64 0) (.slice none 0 0) (.slice none 0 0)
  rw [size_alloc, size_alloc] at h; exact h
 clear hr hf
 unfold RV.agg
 go_enter Tryz.func61, Tryz.ntmps61
 go_upto_region 2 with (fail)
 go_cut [5, 6] (fun v5 v6 wx => ∃ p5 p6, v5 = .pointer (some ⟨p5, 0, none⟩) ∧ v6 = .pointer (some ⟨p6, 0, none⟩) ∧ At6B wx p5 (.int .i64 1) (.int .u64 (x.v.a : Int)) (.int .u64 (x.v.b : Int)) (.int .u64 (x.v.c : Int)) (.slice x.A x.v.pre.length x.c) (.slice none 0 0) ∧ At6B wx p6 (.int .i64 2) (.int .u64 (x.v.a : Int)) (.int .u64 (x.v.b : Int)) (.int .u64 (x.v.c : Int)) (.slice x.A x.v.pre.length x.c) (.slice none 0 0) ∧ RAt wx w.heap.size x ∧ At6B wx (w.heap.size + 1) (.int .i64 0) (.int .u64 0) (.int .u64 0) (.int .u64 0) (.slice none 0 0) (.slice none 0 0) ∧ At6B wx (w.heap.size + 1 + 1) (.int .i64 3) (.int .u64 0) (.int .u64 0) (.int .u64 0) (.slice none 0 0) (.slice none 0 0) ∧ Below w.heap.size w wx)
 case first =>
  generalize (((w.alloc (.cells #[.int .i64 x.kind, .int .u64 (x.v.a : Int), .int .u64 (x.v.b : Int), .int .u64 (x.v.c : Int), .slice x.A x.v.pre.length x.c, .slice x.B x.v.build.length x.d, .slice x.L x.n x.e] 28)).alloc (.cells #[.int .i64 0, .int .u64 0, .int .u64 0, .int .u64 0, .slice none 0 0, .slice none 0 0] 41)).alloc (.cells #[.int .i64 3, .int .u64 0, .int .u64 0, .int .u64 0, .slice none 0 0, .slice none 0 0] 41)) = W0 at HB HR HL HH ⊢
  replace HB : Hid (Below w.heap.size w W0.drew) := HB.out.drew
  replace HR : Hid (RAt W0.drew w.heap.size x) := HR.out
  replace HL : Hid (At6B W0.drew (w.heap.size + 1) (.int .i64 0) (.int .u64 0) (.int .u64 0) (.int .u64 0) (.slice none 0 0) (.slice none 0 0)) := HL.out
  replace HH : Hid (At6B W0.drew (w.heap.size + 1 + 1) (.int .i64 3) (.int .u64 0) (.int .u64 0) (.int .u64 0) (.slice none 0 0) (.slice none 0 0)) := HH.out
  refine wp_region_held_drew (S := fun w' => RAt w' w.heap.size x) (by kernel_rfl) HR.out (fun hHeld => ?_)
  generalize W0.drew = W1 at HB HR HL HH hHeld ⊢
  refine tk 0 rfl (.pointer (some ⟨w.heap.size, 1, none⟩)) ?_
  refine tk 1 rfl (.agg #[.int .u64 (x.v.a : Int), .int .u64 (x.v.b : Int), .int .u64 (x.v.c : Int), .slice x.A x.v.pre.length x.c, .slice x.B x.v.build.length x.d]) ?_ fun w' hS' => by obtain ⟨y1, y2, c0, c1, c2, c3, c4, c5, c6⟩ := hS'; go_simp
  refine tk 3 rfl (.pointer (some ⟨w.heap.size, 1, none⟩)) ?_
  refine tk 4 rfl (.agg #[.int .u64 (x.v.a : Int), .int .u64 (x.v.b : Int), .int .u64 (x.v.c : Int), .slice x.A x.v.pre.length x.c, .slice x.B x.v.build.length x.d]) ?_ fun w' hS' => by obtain ⟨y1, y2, c0, c1, c2, c3, c4, c5, c6⟩ := hS'; go_simp
  refine wpAnyH_ready (rs := [2, 6, 7]) (by kernel_rfl) (by simp) ?_
  refine AllReadyH.cons (o := { dst := some 11, op := Op.call { callee := Callee.value (Operand.func 96), args := #[Operand.const (Value.int IntKind.i64 1), Operand.tmp 10], argTypes := #[3, 25] }, type := 41, pos := _, after := _, guard := none }) rfl (fun K hK => ?_) (AllReadyH.cons (o := { dst := some 5, op := Op.alloc 41, type := 0, pos := _, after := _, guard := none }) rfl (fun K hK => ?_) (AllReadyH.cons (o := { dst := some 6, op := Op.alloc 41, type := 0, pos := _, after := _, guard := none }) rfl (fun K hK => ?_) AllReadyH.nil))
  ·go_simp
   refine (ncut_any 1 x.v x.A x.c x.B x.d _).mono ?_
   rintro e wq1 ⟨rfl, hb⟩
   replace HB : Hid (Below w.heap.size w wq1) := HB.out.trans (hb.mono HB.out.size)
   replace HR := Lib.hid (HR.out.kept hb HR.out.1)
   replace HL := Lib.hid (HL.out.kept hb HL.out.1)
   replace HH := Lib.hid (HH.out.kept hb HH.out.1)
   clear hb hHeld
   refine hK.out _ _ HR.out (fun hHeld => ?_)
   clear hK K
   try simp only [Act.put, p1, p2, p3]
   refine wpAnyH_ready (rs := [5, 6, 7]) (by kernel_rfl) (by simp) ?_
   refine AllReadyH.cons (o := { dst := some 14, op := Op.call { callee := Callee.value (Operand.func 96), args := #[Operand.const (Value.int IntKind.i64 2), Operand.tmp 13], argTypes := #[3, 25] }, type := 41, pos := _, after := _, guard := none }) rfl (fun K hK => ?_) (AllReadyH.cons (o := { dst := some 5, op := Op.alloc 41, type := 0, pos := _, after := _, guard := none }) rfl (fun K hK => ?_) (AllReadyH.cons (o := { dst := some 6, op := Op.alloc 41, type := 0, pos := _, after := _, guard := none }) rfl (fun K hK => ?_) AllReadyH.nil))
   ·go_simp
    refine (ncut_any 2 x.v x.A x.c x.B x.d _).mono ?_
    rintro e wq2 ⟨rfl, hb⟩
    replace HB : Hid (Below w.heap.size w wq2) := HB.out.trans (hb.mono HB.out.size)
    replace HR := Lib.hid (HR.out.kept hb HR.out.1)
    replace HL := Lib.hid (HL.out.kept hb HL.out.1)
    replace HH := Lib.hid (HH.out.kept hb HH.out.1)
    clear hb hHeld
    refine hK.out _ _ HR.out (fun hHeld => ?_)
    clear hK K
    try simp only [Act.put, p1, p2, p3]
    refine wpAnyH_ready (rs := [6, 7]) (by kernel_rfl) (by simp) ?_
    refine AllReadyH.cons (o := { dst := some 5, op := Op.alloc 41, type := 0, pos := _, after := _, guard := none }) rfl (fun K hK => ?_) (AllReadyH.cons (o := { dst := some 6, op := Op.alloc 41, type := 0, pos := _, after := _, guard := none }) rfl (fun K hK => ?_) AllReadyH.nil)
    ·go_simp
     have hb : Below wq2.heap.size wq2 (wq2.alloc (.cells #[.int .i64 0, .int .u64 0, .int .u64 0, .int .u64 0, .slice none 0 0, .slice none 0 0] 41)) := (Below.refl _ _).alloc (Nat.le_refl _) _
     have hp5 : w.heap.size + 2 < wq2.heap.size := HH.out.1
     replace HB : Hid (Below w.heap.size w (wq2.alloc (.cells #[.int .i64 0, .int .u64 0, .int .u64 0, .int .u64 0, .slice none 0 0, .slice none 0 0] 41))) := HB.out.trans (hb.mono HB.out.size)
     replace HR := Lib.hid (HR.out.kept hb HR.out.1)
     replace HL := Lib.hid (HL.out.kept hb HL.out.1)
     replace HH := Lib.hid (HH.out.kept hb HH.out.1)
     have H5 : Hid (At6B (wq2.alloc (.cells #[.int .i64 0, .int .u64 0, .int .u64 0, .int .u64 0, .slice none 0 0, .slice none 0 0] 41)) wq2.heap.size (.int .i64 0) (.int .u64 0) (.int .u64 0) (.int .u64 0) (.slice none 0 0) (.slice none 0 0)) := At6B.new _ _ _ _ _ _ _ _
     clear hb hHeld
     generalize (wq2.alloc (.cells #[.int .i64 0, .int .u64 0, .int .u64 0, .int .u64 0, .slice none 0 0, .slice none 0 0] 41)) = wq3 at HB HR HL HH H5 ⊢
     refine hK.out _ _ HR.out (fun hHeld => ?_)
     clear hK K
     try simp only [Act.put, p1, p2, p3]
     refine cl 7 rfl fun K hK => ?_
     go_simp
     have hb : Below wq3.heap.size wq3 (wq3.alloc (.cells #[.int .i64 0, .int .u64 0, .int .u64 0, .int .u64 0, .slice none 0 0, .slice none 0 0] 41)) := (Below.refl _ _).alloc (Nat.le_refl _) _
     have hne : wq2.heap.size ≠ wq3.heap.size := Nat.ne_of_lt H5.out.1
     have hp6 : w.heap.size + 2 < wq3.heap.size := HH.out.1
     replace HB : Hid (Below w.heap.size w (wq3.alloc (.cells #[.int .i64 0, .int .u64 0, .int .u64 0, .int .u64 0, .slice none 0 0, .slice none 0 0] 41))) := HB.out.trans (hb.mono HB.out.size)
     replace HR := Lib.hid (HR.out.kept hb HR.out.1)
     replace HL := Lib.hid (HL.out.kept hb HL.out.1)
     replace HH := Lib.hid (HH.out.kept hb HH.out.1)
     replace H5 := Lib.hid (H5.out.kept hb H5.out.1)
     have H6 : Hid (At6B (wq3.alloc (.cells #[.int .i64 0, .int .u64 0, .int .u64 0, .int .u64 0, .slice none 0 0, .slice none 0 0] 41)) wq3.heap.size (.int .i64 0) (.int .u64 0) (.int .u64 0) (.int .u64 0) (.slice none 0 0) (.slice none 0 0)) := At6B.new _ _ _ _ _ _ _ _
     clear hb hHeld
     generalize (wq3.alloc (.cells #[.int .i64 0, .int .u64 0, .int .u64 0, .int .u64 0, .slice none 0 0, .slice none 0 0] 41)) = wq4 at HB HR HL HH H5 H6 ⊢
     refine hK.out _ _ HR.out (fun hHeld => ?_)
     clear hK K
     try simp only [Act.put, p1, p2, p3]
     refine cl 8 rfl fun K hK => ?_
     obtain ⟨z1, z2, s0, s1, s2, s3, s4, s5⟩ := H5.out
     go_simp
     have hb : Below (w.heap.size + 3) wq4 (Span.set6 wq4 (wq2.heap.size) (.int .i64 1) (.int .u64 (x.v.a : Int)) (.int .u64 (x.v.b : Int)) (.int .u64 (x.v.c : Int)) (.slice x.A x.v.pre.length x.c) (.slice none 0 0)) := below_set6 (Below.refl _ _) (by omega) (.int .i64 1) (.int .u64 (x.v.a : Int)) (.int .u64 (x.v.b : Int)) (.int .u64 (x.v.c : Int)) (.slice x.A x.v.pre.length x.c) (.slice none 0 0)
     replace HB : Hid (Below w.heap.size w (Span.set6 wq4 (wq2.heap.size) (.int .i64 1) (.int .u64 (x.v.a : Int)) (.int .u64 (x.v.b : Int)) (.int .u64 (x.v.c : Int)) (.slice x.A x.v.pre.length x.c) (.slice none 0 0))) := below_set6 HB.out (by omega) (.int .i64 1) (.int .u64 (x.v.a : Int)) (.int .u64 (x.v.b : Int)) (.int .u64 (x.v.c : Int)) (.slice x.A x.v.pre.length x.c) (.slice none 0 0)
     replace HR := Lib.hid (HR.out.kept hb (by omega))
     replace HL := Lib.hid (HL.out.kept hb (by omega))
     replace HH := Lib.hid (HH.out.kept hb (by omega))
     replace H5 := Lib.hid (H5.out.set6 (.int .i64 1) (.int .u64 (x.v.a : Int)) (.int .u64 (x.v.b : Int)) (.int .u64 (x.v.c : Int)) (.slice x.A x.v.pre.length x.c) (.slice none 0 0))
     replace H6 := Lib.hid (six_ne H6.out hne.symm (.int .i64 1) (.int .u64 (x.v.a : Int)) (.int .u64 (x.v.b : Int)) (.int .u64 (x.v.c : Int)) (.slice x.A x.v.pre.length x.c) (.slice none 0 0))
     clear hb hHeld z1 z2 s0 s1 s2 s3 s4 s5
     change K _ (Span.set6 wq4 (wq2.heap.size) (.int .i64 1) (.int .u64 (x.v.a : Int)) (.int .u64 (x.v.b : Int)) (.int .u64 (x.v.c : Int)) (.slice x.A x.v.pre.length x.c) (.slice none 0 0))
     generalize Span.set6 wq4 (wq2.heap.size) (.int .i64 1) (.int .u64 (x.v.a : Int)) (.int .u64 (x.v.b : Int)) (.int .u64 (x.v.c : Int)) (.slice x.A x.v.pre.length x.c) (.slice none 0 0) = wq5 at HB HR HL HH H5 H6 ⊢
     refine hK.out _ _ HR.out (fun hHeld => ?_)
     clear hK K
     try simp only [Act.put, p1, p2, p3]
     refine cl 9 rfl fun K hK => ?_
     obtain ⟨z1, z2, s0, s1, s2, s3, s4, s5⟩ := H6.out
     go_simp
     have hb : Below (w.heap.size + 3) wq5 (Span.set6 wq5 (wq3.heap.size) (.int .i64 2) (.int .u64 (x.v.a : Int)) (.int .u64 (x.v.b : Int)) (.int .u64 (x.v.c : Int)) (.slice x.A x.v.pre.length x.c) (.slice none 0 0)) := below_set6 (Below.refl _ _) (by omega) (.int .i64 2) (.int .u64 (x.v.a : Int)) (.int .u64 (x.v.b : Int)) (.int .u64 (x.v.c : Int)) (.slice x.A x.v.pre.length x.c) (.slice none 0 0)
     replace HB : Hid (Below w.heap.size w (Span.set6 wq5 (wq3.heap.size) (.int .i64 2) (.int .u64 (x.v.a : Int)) (.int .u64 (x.v.b : Int)) (.int .u64 (x.v.c : Int)) (.slice x.A x.v.pre.length x.c) (.slice none 0 0))) := below_set6 HB.out (by omega) (.int .i64 2) (.int .u64 (x.v.a : Int)) (.int .u64 (x.v.b : Int)) (.int .u64 (x.v.c : Int)) (.slice x.A x.v.pre.length x.c) (.slice none 0 0)
     replace HR := Lib.hid (HR.out.kept hb (by omega))
     replace HL := Lib.hid (HL.out.kept hb (by omega))
     replace HH := Lib.hid (HH.out.kept hb (by omega))
     replace H6 := Lib.hid (H6.out.set6 (.int .i64 2) (.int .u64 (x.v.a : Int)) (.int .u64 (x.v.b : Int)) (.int .u64 (x.v.c : Int)) (.slice x.A x.v.pre.length x.c) (.slice none 0 0))
     replace H5 := Lib.hid (six_ne H5.out hne (.int .i64 2) (.int .u64 (x.v.a : Int)) (.int .u64 (x.v.b : Int)) (.int .u64 (x.v.c : Int)) (.slice x.A x.v.pre.length x.c) (.slice none 0 0))
     clear hb hHeld z1 z2 s0 s1 s2 s3 s4 s5
     change K _ (Span.set6 wq5 (wq3.heap.size) (.int .i64 2) (.int .u64 (x.v.a : Int)) (.int .u64 (x.v.b : Int)) (.int .u64 (x.v.c : Int)) (.slice x.A x.v.pre.length x.c) (.slice none 0 0))
     generalize Span.set6 wq5 (wq3.heap.size) (.int .i64 2) (.int .u64 (x.v.a : Int)) (.int .u64 (x.v.b : Int)) (.int .u64 (x.v.c : Int)) (.slice x.A x.v.pre.length x.c) (.slice none 0 0) = wq6 at HB HR HL HH H5 H6 ⊢
     refine hK.out _ _ HR.out (fun hHeld => ?_)
     clear hK K
     try simp only [Act.put, p1, p2, p3]
     refine wpAnyH_done (by kernel_rfl) ?_ _
     go_wp2
     go_meet
     exact ⟨_, _, rfl, rfl, H5.out, H6.out, HR.out, HL.out, HH.out, HB.out⟩
    ·go_simp
     have hb : Below wq2.heap.size wq2 (wq2.alloc (.cells #[.int .i64 0, .int .u64 0, .int .u64 0, .int .u64 0, .slice none 0 0, .slice none 0 0] 41)) := (Below.refl _ _).alloc (Nat.le_refl _) _
     have hp6 : w.heap.size + 2 < wq2.heap.size := HH.out.1
     replace HB : Hid (Below w.heap.size w (wq2.alloc (.cells #[.int .i64 0, .int .u64 0, .int .u64 0, .int .u64 0, .slice none 0 0, .slice none 0 0] 41))) := HB.out.trans (hb.mono HB.out.size)
     replace HR := Lib.hid (HR.out.kept hb HR.out.1)
     replace HL := Lib.hid (HL.out.kept hb HL.out.1)
     replace HH := Lib.hid (HH.out.kept hb HH.out.1)
     have H6 : Hid (At6B (wq2.alloc (.cells #[.int .i64 0, .int .u64 0, .int .u64 0, .int .u64 0, .slice none 0 0, .slice none 0 0] 41)) wq2.heap.size (.int .i64 0) (.int .u64 0) (.int .u64 0) (.int .u64 0) (.slice none 0 0) (.slice none 0 0)) := At6B.new _ _ _ _ _ _ _ _
     clear hb hHeld
     generalize (wq2.alloc (.cells #[.int .i64 0, .int .u64 0, .int .u64 0, .int .u64 0, .slice none 0 0, .slice none 0 0] 41)) = wq7 at HB HR HL HH H6 ⊢
     refine hK.out _ _ HR.out (fun hHeld => ?_)
     clear hK K
     try simp only [Act.put, p1, p2, p3]
     refine cl 6 rfl fun K hK => ?_
     go_simp
     have hb : Below wq7.heap.size wq7 (wq7.alloc (.cells #[.int .i64 0, .int .u64 0, .int .u64 0, .int .u64 0, .slice none 0 0, .slice none 0 0] 41)) := (Below.refl _ _).alloc (Nat.le_refl _) _
     have hne : wq7.heap.size ≠ wq2.heap.size := Nat.ne_of_gt H6.out.1
     have hp5 : w.heap.size + 2 < wq7.heap.size := HH.out.1
     replace HB : Hid (Below w.heap.size w (wq7.alloc (.cells #[.int .i64 0, .int .u64 0, .int .u64 0, .int .u64 0, .slice none 0 0, .slice none 0 0] 41))) := HB.out.trans (hb.mono HB.out.size)
     replace HR := Lib.hid (HR.out.kept hb HR.out.1)
     replace HL := Lib.hid (HL.out.kept hb HL.out.1)
     replace HH := Lib.hid (HH.out.kept hb HH.out.1)
     replace H6 := Lib.hid (H6.out.kept hb H6.out.1)
     have H5 : Hid (At6B (wq7.alloc (.cells #[.int .i64 0, .int .u64 0, .int .u64 0, .int .u64 0, .slice none 0 0, .slice none 0 0] 41)) wq7.heap.size (.int .i64 0) (.int .u64 0) (.int .u64 0) (.int .u64 0) (.slice none 0 0) (.slice none 0 0)) := At6B.new _ _ _ _ _ _ _ _
     clear hb hHeld
     generalize (wq7.alloc (.cells #[.int .i64 0, .int .u64 0, .int .u64 0, .int .u64 0, .slice none 0 0, .slice none 0 0] 41)) = wq8 at HB HR HL HH H6 H5 ⊢
     refine hK.out _ _ HR.out (fun hHeld => ?_)
     clear hK K
     try simp only [Act.put, p1, p2, p3]
     refine cl 8 rfl fun K hK => ?_
     obtain ⟨z1, z2, s0, s1, s2, s3, s4, s5⟩ := H5.out
     go_simp
     have hb : Below (w.heap.size + 3) wq8 (Span.set6 wq8 (wq7.heap.size) (.int .i64 1) (.int .u64 (x.v.a : Int)) (.int .u64 (x.v.b : Int)) (.int .u64 (x.v.c : Int)) (.slice x.A x.v.pre.length x.c) (.slice none 0 0)) := below_set6 (Below.refl _ _) (by omega) (.int .i64 1) (.int .u64 (x.v.a : Int)) (.int .u64 (x.v.b : Int)) (.int .u64 (x.v.c : Int)) (.slice x.A x.v.pre.length x.c) (.slice none 0 0)
     replace HB : Hid (Below w.heap.size w (Span.set6 wq8 (wq7.heap.size) (.int .i64 1) (.int .u64 (x.v.a : Int)) (.int .u64 (x.v.b : Int)) (.int .u64 (x.v.c : Int)) (.slice x.A x.v.pre.length x.c) (.slice none 0 0))) := below_set6 HB.out (by omega) (.int .i64 1) (.int .u64 (x.v.a : Int)) (.int .u64 (x.v.b : Int)) (.int .u64 (x.v.c : Int)) (.slice x.A x.v.pre.length x.c) (.slice none 0 0)
     replace HR := Lib.hid (HR.out.kept hb (by omega))
     replace HL := Lib.hid (HL.out.kept hb (by omega))
     replace HH := Lib.hid (HH.out.kept hb (by omega))
     replace H5 := Lib.hid (H5.out.set6 (.int .i64 1) (.int .u64 (x.v.a : Int)) (.int .u64 (x.v.b : Int)) (.int .u64 (x.v.c : Int)) (.slice x.A x.v.pre.length x.c) (.slice none 0 0))
     replace H6 := Lib.hid (six_ne H6.out hne.symm (.int .i64 1) (.int .u64 (x.v.a : Int)) (.int .u64 (x.v.b : Int)) (.int .u64 (x.v.c : Int)) (.slice x.A x.v.pre.length x.c) (.slice none 0 0))
     clear hb hHeld z1 z2 s0 s1 s2 s3 s4 s5
     change K _ (Span.set6 wq8 (wq7.heap.size) (.int .i64 1) (.int .u64 (x.v.a : Int)) (.int .u64 (x.v.b : Int)) (.int .u64 (x.v.c : Int)) (.slice x.A x.v.pre.length x.c) (.slice none 0 0))
     generalize Span.set6 wq8 (wq7.heap.size) (.int .i64 1) (.int .u64 (x.v.a : Int)) (.int .u64 (x.v.b : Int)) (.int .u64 (x.v.c : Int)) (.slice x.A x.v.pre.length x.c) (.slice none 0 0) = wq9 at HB HR HL HH H5 H6 ⊢
     refine hK.out _ _ HR.out (fun hHeld => ?_)
     clear hK K
     try simp only [Act.put, p1, p2, p3]
     refine cl 9 rfl fun K hK => ?_
     obtain ⟨z1, z2, s0, s1, s2, s3, s4, s5⟩ := H6.out
     go_simp
     have hb : Below (w.heap.size + 3) wq9 (Span.set6 wq9 (wq2.heap.size) (.int .i64 2) (.int .u64 (x.v.a : Int)) (.int .u64 (x.v.b : Int)) (.int .u64 (x.v.c : Int)) (.slice x.A x.v.pre.length x.c) (.slice none 0 0)) := below_set6 (Below.refl _ _) (by omega) (.int .i64 2) (.int .u64 (x.v.a : Int)) (.int .u64 (x.v.b : Int)) (.int .u64 (x.v.c : Int)) (.slice x.A x.v.pre.length x.c) (.slice none 0 0)
     replace HB : Hid (Below w.heap.size w (Span.set6 wq9 (wq2.heap.size) (.int .i64 2) (.int .u64 (x.v.a : Int)) (.int .u64 (x.v.b : Int)) (.int .u64 (x.v.c : Int)) (.slice x.A x.v.pre.length x.c) (.slice none 0 0))) := below_set6 HB.out (by omega) (.int .i64 2) (.int .u64 (x.v.a : Int)) (.int .u64 (x.v.b : Int)) (.int .u64 (x.v.c : Int)) (.slice x.A x.v.pre.length x.c) (.slice none 0 0)
     replace HR := Lib.hid (HR.out.kept hb (by omega))
     replace HL := Lib.hid (HL.out.kept hb (by omega))
     replace HH := Lib.hid (HH.out.kept hb (by omega))
     replace H6 := Lib.hid (H6.out.set6 (.int .i64 2) (.int .u64 (x.v.a : Int)) (.int .u64 (x.v.b : Int)) (.int .u64 (x.v.c : Int)) (.slice x.A x.v.pre.length x.c) (.slice none 0 0))
     replace H5 := Lib.hid (six_ne H5.out hne (.int .i64 2) (.int .u64 (x.v.a : Int)) (.int .u64 (x.v.b : Int)) (.int .u64 (x.v.c : Int)) (.slice x.A x.v.pre.length x.c) (.slice none 0 0))
     clear hb hHeld z1 z2 s0 s1 s2 s3 s4 s5
     change K _ (Span.set6 wq9 (wq2.heap.size) (.int .i64 2) (.int .u64 (x.v.a : Int)) (.int .u64 (x.v.b : Int)) (.int .u64 (x.v.c : Int)) (.slice x.A x.v.pre.length x.c) (.slice none 0 0))
     generalize Span.set6 wq9 (wq2.heap.size) (.int .i64 2) (.int .u64 (x.v.a : Int)) (.int .u64 (x.v.b : Int)) (.int .u64 (x.v.c : Int)) (.slice x.A x.v.pre.length x.c) (.slice none 0 0) = wq10 at HB HR HL HH H5 H6 ⊢
     refine hK.out _ _ HR.out (fun hHeld => ?_)
     clear hK K
     try simp only [Act.put, p1, p2, p3]
     refine wpAnyH_done (by kernel_rfl) ?_ _
     go_wp2
     go_meet
     exact ⟨_, _, rfl, rfl, H5.out, H6.out, HR.out, HL.out, HH.out, HB.out⟩
   ·go_simp
    have hb : Below wq1.heap.size wq1 (wq1.alloc (.cells #[.int .i64 0, .int .u64 0, .int .u64 0, .int .u64 0, .slice none 0 0, .slice none 0 0] 41)) := (Below.refl _ _).alloc (Nat.le_refl _) _
    have hp5 : w.heap.size + 2 < wq1.heap.size := HH.out.1
    replace HB : Hid (Below w.heap.size w (wq1.alloc (.cells #[.int .i64 0, .int .u64 0, .int .u64 0, .int .u64 0, .slice none 0 0, .slice none 0 0] 41))) := HB.out.trans (hb.mono HB.out.size)
    replace HR := Lib.hid (HR.out.kept hb HR.out.1)
    replace HL := Lib.hid (HL.out.kept hb HL.out.1)
    replace HH := Lib.hid (HH.out.kept hb HH.out.1)
    have H5 : Hid (At6B (wq1.alloc (.cells #[.int .i64 0, .int .u64 0, .int .u64 0, .int .u64 0, .slice none 0 0, .slice none 0 0] 41)) wq1.heap.size (.int .i64 0) (.int .u64 0) (.int .u64 0) (.int .u64 0) (.slice none 0 0) (.slice none 0 0)) := At6B.new _ _ _ _ _ _ _ _
    clear hb hHeld
    generalize (wq1.alloc (.cells #[.int .i64 0, .int .u64 0, .int .u64 0, .int .u64 0, .slice none 0 0, .slice none 0 0] 41)) = wq11 at HB HR HL HH H5 ⊢
    refine hK.out _ _ HR.out (fun hHeld => ?_)
    clear hK K
    try simp only [Act.put, p1, p2, p3]
    refine wpAnyH_ready (rs := [5, 7]) (by kernel_rfl) (by simp) ?_
    refine AllReadyH.cons (o := { dst := some 14, op := Op.call { callee := Callee.value (Operand.func 96), args := #[Operand.const (Value.int IntKind.i64 2), Operand.tmp 13], argTypes := #[3, 25] }, type := 41, pos := _, after := _, guard := none }) rfl (fun K hK => ?_) (AllReadyH.cons (o := { dst := some 6, op := Op.alloc 41, type := 0, pos := _, after := _, guard := none }) rfl (fun K hK => ?_) AllReadyH.nil)
    ·go_simp
     refine (ncut_any 2 x.v x.A x.c x.B x.d _).mono ?_
     rintro e wq12 ⟨rfl, hb⟩
     replace HB : Hid (Below w.heap.size w wq12) := HB.out.trans (hb.mono HB.out.size)
     replace HR := Lib.hid (HR.out.kept hb HR.out.1)
     replace HL := Lib.hid (HL.out.kept hb HL.out.1)
     replace HH := Lib.hid (HH.out.kept hb HH.out.1)
     replace H5 := Lib.hid (H5.out.kept hb H5.out.1)
     clear hb hHeld
     refine hK.out _ _ HR.out (fun hHeld => ?_)
     clear hK K
     try simp only [Act.put, p1, p2, p3]
     refine cl 7 rfl fun K hK => ?_
     go_simp
     have hb : Below wq12.heap.size wq12 (wq12.alloc (.cells #[.int .i64 0, .int .u64 0, .int .u64 0, .int .u64 0, .slice none 0 0, .slice none 0 0] 41)) := (Below.refl _ _).alloc (Nat.le_refl _) _
     have hne : wq1.heap.size ≠ wq12.heap.size := Nat.ne_of_lt H5.out.1
     have hp6 : w.heap.size + 2 < wq12.heap.size := HH.out.1
     replace HB : Hid (Below w.heap.size w (wq12.alloc (.cells #[.int .i64 0, .int .u64 0, .int .u64 0, .int .u64 0, .slice none 0 0, .slice none 0 0] 41))) := HB.out.trans (hb.mono HB.out.size)
     replace HR := Lib.hid (HR.out.kept hb HR.out.1)
     replace HL := Lib.hid (HL.out.kept hb HL.out.1)
     replace HH := Lib.hid (HH.out.kept hb HH.out.1)
     replace H5 := Lib.hid (H5.out.kept hb H5.out.1)
     have H6 : Hid (At6B (wq12.alloc (.cells #[.int .i64 0, .int .u64 0, .int .u64 0, .int .u64 0, .slice none 0 0, .slice none 0 0] 41)) wq12.heap.size (.int .i64 0) (.int .u64 0) (.int .u64 0) (.int .u64 0) (.slice none 0 0) (.slice none 0 0)) := At6B.new _ _ _ _ _ _ _ _
     clear hb hHeld
     generalize (wq12.alloc (.cells #[.int .i64 0, .int .u64 0, .int .u64 0, .int .u64 0, .slice none 0 0, .slice none 0 0] 41)) = wq13 at HB HR HL HH H5 H6 ⊢
     refine hK.out _ _ HR.out (fun hHeld => ?_)
     clear hK K
     try simp only [Act.put, p1, p2, p3]
     refine cl 8 rfl fun K hK => ?_
     obtain ⟨z1, z2, s0, s1, s2, s3, s4, s5⟩ := H5.out
     go_simp
     have hb : Below (w.heap.size + 3) wq13 (Span.set6 wq13 (wq1.heap.size) (.int .i64 1) (.int .u64 (x.v.a : Int)) (.int .u64 (x.v.b : Int)) (.int .u64 (x.v.c : Int)) (.slice x.A x.v.pre.length x.c) (.slice none 0 0)) := below_set6 (Below.refl _ _) (by omega) (.int .i64 1) (.int .u64 (x.v.a : Int)) (.int .u64 (x.v.b : Int)) (.int .u64 (x.v.c : Int)) (.slice x.A x.v.pre.length x.c) (.slice none 0 0)
     replace HB : Hid (Below w.heap.size w (Span.set6 wq13 (wq1.heap.size) (.int .i64 1) (.int .u64 (x.v.a : Int)) (.int .u64 (x.v.b : Int)) (.int .u64 (x.v.c : Int)) (.slice x.A x.v.pre.length x.c) (.slice none 0 0))) := below_set6 HB.out (by omega) (.int .i64 1) (.int .u64 (x.v.a : Int)) (.int .u64 (x.v.b : Int)) (.int .u64 (x.v.c : Int)) (.slice x.A x.v.pre.length x.c) (.slice none 0 0)
     replace HR := Lib.hid (HR.out.kept hb (by omega))
     replace HL := Lib.hid (HL.out.kept hb (by omega))
     replace HH := Lib.hid (HH.out.kept hb (by omega))
     replace H5 := Lib.hid (H5.out.set6 (.int .i64 1) (.int .u64 (x.v.a : Int)) (.int .u64 (x.v.b : Int)) (.int .u64 (x.v.c : Int)) (.slice x.A x.v.pre.length x.c) (.slice none 0 0))
     replace H6 := Lib.hid (six_ne H6.out hne.symm (.int .i64 1) (.int .u64 (x.v.a : Int)) (.int .u64 (x.v.b : Int)) (.int .u64 (x.v.c : Int)) (.slice x.A x.v.pre.length x.c) (.slice none 0 0))
     clear hb hHeld z1 z2 s0 s1 s2 s3 s4 s5
     change K _ (Span.set6 wq13 (wq1.heap.size) (.int .i64 1) (.int .u64 (x.v.a : Int)) (.int .u64 (x.v.b : Int)) (.int .u64 (x.v.c : Int)) (.slice x.A x.v.pre.length x.c) (.slice none 0 0))
     generalize Span.set6 wq13 (wq1.heap.size) (.int .i64 1) (.int .u64 (x.v.a : Int)) (.int .u64 (x.v.b : Int)) (.int .u64 (x.v.c : Int)) (.slice x.A x.v.pre.length x.c) (.slice none 0 0) = wq14 at HB HR HL HH H5 H6 ⊢
     refine hK.out _ _ HR.out (fun hHeld => ?_)
     clear hK K
     try simp only [Act.put, p1, p2, p3]
     refine cl 9 rfl fun K hK => ?_
     obtain ⟨z1, z2, s0, s1, s2, s3, s4, s5⟩ := H6.out
     go_simp
     have hb : Below (w.heap.size + 3) wq14 (Span.set6 wq14 (wq12.heap.size) (.int .i64 2) (.int .u64 (x.v.a : Int)) (.int .u64 (x.v.b : Int)) (.int .u64 (x.v.c : Int)) (.slice x.A x.v.pre.length x.c) (.slice none 0 0)) := below_set6 (Below.refl _ _) (by omega) (.int .i64 2) (.int .u64 (x.v.a : Int)) (.int .u64 (x.v.b : Int)) (.int .u64 (x.v.c : Int)) (.slice x.A x.v.pre.length x.c) (.slice none 0 0)
     replace HB : Hid (Below w.heap.size w (Span.set6 wq14 (wq12.heap.size) (.int .i64 2) (.int .u64 (x.v.a : Int)) (.int .u64 (x.v.b : Int)) (.int .u64 (x.v.c : Int)) (.slice x.A x.v.pre.length x.c) (.slice none 0 0))) := below_set6 HB.out (by omega) (.int .i64 2) (.int .u64 (x.v.a : Int)) (.int .u64 (x.v.b : Int)) (.int .u64 (x.v.c : Int)) (.slice x.A x.v.pre.length x.c) (.slice none 0 0)
     replace HR := Lib.hid (HR.out.kept hb (by omega))
     replace HL := Lib.hid (HL.out.kept hb (by omega))
     replace HH := Lib.hid (HH.out.kept hb (by omega))
     replace H6 := Lib.hid (H6.out.set6 (.int .i64 2) (.int .u64 (x.v.a : Int)) (.int .u64 (x.v.b : Int)) (.int .u64 (x.v.c : Int)) (.slice x.A x.v.pre.length x.c) (.slice none 0 0))
     replace H5 := Lib.hid (six_ne H5.out hne (.int .i64 2) (.int .u64 (x.v.a : Int)) (.int .u64 (x.v.b : Int)) (.int .u64 (x.v.c : Int)) (.slice x.A x.v.pre.length x.c) (.slice none 0 0))
     clear hb hHeld z1 z2 s0 s1 s2 s3 s4 s5
     change K _ (Span.set6 wq14 (wq12.heap.size) (.int .i64 2) (.int .u64 (x.v.a : Int)) (.int .u64 (x.v.b : Int)) (.int .u64 (x.v.c : Int)) (.slice x.A x.v.pre.length x.c) (.slice none 0 0))
     generalize Span.set6 wq14 (wq12.heap.size) (.int .i64 2) (.int .u64 (x.v.a : Int)) (.int .u64 (x.v.b : Int)) (.int .u64 (x.v.c : Int)) (.slice x.A x.v.pre.length x.c) (.slice none 0 0) = wq15 at HB HR HL HH H5 H6 ⊢
     refine hK.out _ _ HR.out (fun hHeld => ?_)
     clear hK K
     try simp only [Act.put, p1, p2, p3]
     refine wpAnyH_done (by kernel_rfl) ?_ _
     go_wp2
     go_meet
     exact ⟨_, _, rfl, rfl, H5.out, H6.out, HR.out, HL.out, HH.out, HB.out⟩
    ·go_simp
     have hb : Below wq11.heap.size wq11 (wq11.alloc (.cells #[.int .i64 0, .int .u64 0, .int .u64 0, .int .u64 0, .slice none 0 0, .slice none 0 0] 41)) := (Below.refl _ _).alloc (Nat.le_refl _) _
     have hne : wq1.heap.size ≠ wq11.heap.size := Nat.ne_of_lt H5.out.1
     have hp6 : w.heap.size + 2 < wq11.heap.size := HH.out.1
     replace HB : Hid (Below w.heap.size w (wq11.alloc (.cells #[.int .i64 0, .int .u64 0, .int .u64 0, .int .u64 0, .slice none 0 0, .slice none 0 0] 41))) := HB.out.trans (hb.mono HB.out.size)
     replace HR := Lib.hid (HR.out.kept hb HR.out.1)
     replace HL := Lib.hid (HL.out.kept hb HL.out.1)
     replace HH := Lib.hid (HH.out.kept hb HH.out.1)
     replace H5 := Lib.hid (H5.out.kept hb H5.out.1)
     have H6 : Hid (At6B (wq11.alloc (.cells #[.int .i64 0, .int .u64 0, .int .u64 0, .int .u64 0, .slice none 0 0, .slice none 0 0] 41)) wq11.heap.size (.int .i64 0) (.int .u64 0) (.int .u64 0) (.int .u64 0) (.slice none 0 0) (.slice none 0 0)) := At6B.new _ _ _ _ _ _ _ _
     clear hb hHeld
     generalize (wq11.alloc (.cells #[.int .i64 0, .int .u64 0, .int .u64 0, .int .u64 0, .slice none 0 0, .slice none 0 0] 41)) = wq16 at HB HR HL HH H5 H6 ⊢
     refine hK.out _ _ HR.out (fun hHeld => ?_)
     clear hK K
     try simp only [Act.put, p1, p2, p3]
     refine cl 5 rfl fun K hK => ?_
     go_simp
     refine (ncut_any 2 x.v x.A x.c x.B x.d _).mono ?_
     rintro e wq17 ⟨rfl, hb⟩
     replace HB : Hid (Below w.heap.size w wq17) := HB.out.trans (hb.mono HB.out.size)
     replace HR := Lib.hid (HR.out.kept hb HR.out.1)
     replace HL := Lib.hid (HL.out.kept hb HL.out.1)
     replace HH := Lib.hid (HH.out.kept hb HH.out.1)
     replace H5 := Lib.hid (H5.out.kept hb H5.out.1)
     replace H6 := Lib.hid (H6.out.kept hb H6.out.1)
     clear hb hHeld
     refine hK.out _ _ HR.out (fun hHeld => ?_)
     clear hK K
     try simp only [Act.put, p1, p2, p3]
     refine cl 8 rfl fun K hK => ?_
     obtain ⟨z1, z2, s0, s1, s2, s3, s4, s5⟩ := H5.out
     go_simp
     have hb : Below (w.heap.size + 3) wq17 (Span.set6 wq17 (wq1.heap.size) (.int .i64 1) (.int .u64 (x.v.a : Int)) (.int .u64 (x.v.b : Int)) (.int .u64 (x.v.c : Int)) (.slice x.A x.v.pre.length x.c) (.slice none 0 0)) := below_set6 (Below.refl _ _) (by omega) (.int .i64 1) (.int .u64 (x.v.a : Int)) (.int .u64 (x.v.b : Int)) (.int .u64 (x.v.c : Int)) (.slice x.A x.v.pre.length x.c) (.slice none 0 0)
     replace HB : Hid (Below w.heap.size w (Span.set6 wq17 (wq1.heap.size) (.int .i64 1) (.int .u64 (x.v.a : Int)) (.int .u64 (x.v.b : Int)) (.int .u64 (x.v.c : Int)) (.slice x.A x.v.pre.length x.c) (.slice none 0 0))) := below_set6 HB.out (by omega) (.int .i64 1) (.int .u64 (x.v.a : Int)) (.int .u64 (x.v.b : Int)) (.int .u64 (x.v.c : Int)) (.slice x.A x.v.pre.length x.c) (.slice none 0 0)
     replace HR := Lib.hid (HR.out.kept hb (by omega))
     replace HL := Lib.hid (HL.out.kept hb (by omega))
     replace HH := Lib.hid (HH.out.kept hb (by omega))
     replace H5 := Lib.hid (H5.out.set6 (.int .i64 1) (.int .u64 (x.v.a : Int)) (.int .u64 (x.v.b : Int)) (.int .u64 (x.v.c : Int)) (.slice x.A x.v.pre.length x.c) (.slice none 0 0))
     replace H6 := Lib.hid (six_ne H6.out hne.symm (.int .i64 1) (.int .u64 (x.v.a : Int)) (.int .u64 (x.v.b : Int)) (.int .u64 (x.v.c : Int)) (.slice x.A x.v.pre.length x.c) (.slice none 0 0))
     clear hb hHeld z1 z2 s0 s1 s2 s3 s4 s5
     change K _ (Span.set6 wq17 (wq1.heap.size) (.int .i64 1) (.int .u64 (x.v.a : Int)) (.int .u64 (x.v.b : Int)) (.int .u64 (x.v.c : Int)) (.slice x.A x.v.pre.length x.c) (.slice none 0 0))
     generalize Span.set6 wq17 (wq1.heap.size) (.int .i64 1) (.int .u64 (x.v.a : Int)) (.int .u64 (x.v.b : Int)) (.int .u64 (x.v.c : Int)) (.slice x.A x.v.pre.length x.c) (.slice none 0 0) = wq18 at HB HR HL HH H5 H6 ⊢
     refine hK.out _ _ HR.out (fun hHeld => ?_)
     clear hK K
     try simp only [Act.put, p1, p2, p3]
     refine cl 9 rfl fun K hK => ?_
     obtain ⟨z1, z2, s0, s1, s2, s3, s4, s5⟩ := H6.out
     go_simp
     have hb : Below (w.heap.size + 3) wq18 (Span.set6 wq18 (wq11.heap.size) (.int .i64 2) (.int .u64 (x.v.a : Int)) (.int .u64 (x.v.b : Int)) (.int .u64 (x.v.c : Int)) (.slice x.A x.v.pre.length x.c) (.slice none 0 0)) := below_set6 (Below.refl _ _) (by omega) (.int .i64 2) (.int .u64 (x.v.a : Int)) (.int .u64 (x.v.b : Int)) (.int .u64 (x.v.c : Int)) (.slice x.A x.v.pre.length x.c) (.slice none 0 0)
     replace HB : Hid (Below w.heap.size w (Span.set6 wq18 (wq11.heap.size) (.int .i64 2) (.int .u64 (x.v.a : Int)) (.int .u64 (x.v.b : Int)) (.int .u64 (x.v.c : Int)) (.slice x.A x.v.pre.length x.c) (.slice none 0 0))) := below_set6 HB.out (by omega) (.int .i64 2) (.int .u64 (x.v.a : Int)) (.int .u64 (x.v.b : Int)) (.int .u64 (x.v.c : Int)) (.slice x.A x.v.pre.length x.c) (.slice none 0 0)
     replace HR := Lib.hid (HR.out.kept hb (by omega))
     replace HL := Lib.hid (HL.out.kept hb (by omega))
     replace HH := Lib.hid (HH.out.kept hb (by omega))
     replace H6 := Lib.hid (H6.out.set6 (.int .i64 2) (.int .u64 (x.v.a : Int)) (.int .u64 (x.v.b : Int)) (.int .u64 (x.v.c : Int)) (.slice x.A x.v.pre.length x.c) (.slice none 0 0))
     replace H5 := Lib.hid (six_ne H5.out hne (.int .i64 2) (.int .u64 (x.v.a : Int)) (.int .u64 (x.v.b : Int)) (.int .u64 (x.v.c : Int)) (.slice x.A x.v.pre.length x.c) (.slice none 0 0))
     clear hb hHeld z1 z2 s0 s1 s2 s3 s4 s5
     change K _ (Span.set6 wq18 (wq11.heap.size) (.int .i64 2) (.int .u64 (x.v.a : Int)) (.int .u64 (x.v.b : Int)) (.int .u64 (x.v.c : Int)) (.slice x.A x.v.pre.length x.c) (.slice none 0 0))
     generalize Span.set6 wq18 (wq11.heap.size) (.int .i64 2) (.int .u64 (x.v.a : Int)) (.int .u64 (x.v.b : Int)) (.int .u64 (x.v.c : Int)) (.slice x.A x.v.pre.length x.c) (.slice none 0 0) = wq19 at HB HR HL HH H5 H6 ⊢
     refine hK.out _ _ HR.out (fun hHeld => ?_)
     clear hK K
     try simp only [Act.put, p1, p2, p3]
     refine wpAnyH_done (by kernel_rfl) ?_ _
     go_wp2
     go_meet
     exact ⟨_, _, rfl, rfl, H5.out, H6.out, HR.out, HL.out, HH.out, HB.out⟩
   ·go_simp
    have hb : Below wq1.heap.size wq1 (wq1.alloc (.cells #[.int .i64 0, .int .u64 0, .int .u64 0, .int .u64 0, .slice none 0 0, .slice none 0 0] 41)) := (Below.refl _ _).alloc (Nat.le_refl _) _
    have hp6 : w.heap.size + 2 < wq1.heap.size := HH.out.1
    replace HB : Hid (Below w.heap.size w (wq1.alloc (.cells #[.int .i64 0, .int .u64 0, .int .u64 0, .int .u64 0, .slice none 0 0, .slice none 0 0] 41))) := HB.out.trans (hb.mono HB.out.size)
    replace HR := Lib.hid (HR.out.kept hb HR.out.1)
    replace HL := Lib.hid (HL.out.kept hb HL.out.1)
    replace HH := Lib.hid (HH.out.kept hb HH.out.1)
    have H6 : Hid (At6B (wq1.alloc (.cells #[.int .i64 0, .int .u64 0, .int .u64 0, .int .u64 0, .slice none 0 0, .slice none 0 0] 41)) wq1.heap.size (.int .i64 0) (.int .u64 0) (.int .u64 0) (.int .u64 0) (.slice none 0 0) (.slice none 0 0)) := At6B.new _ _ _ _ _ _ _ _
    clear hb hHeld
    generalize (wq1.alloc (.cells #[.int .i64 0, .int .u64 0, .int .u64 0, .int .u64 0, .slice none 0 0, .slice none 0 0] 41)) = wq20 at HB HR HL HH H6 ⊢
    refine hK.out _ _ HR.out (fun hHeld => ?_)
    clear hK K
    try simp only [Act.put, p1, p2, p3]
    refine wpAnyH_ready (rs := [5, 6]) (by kernel_rfl) (by simp) ?_
    refine AllReadyH.cons (o := { dst := some 14, op := Op.call { callee := Callee.value (Operand.func 96), args := #[Operand.const (Value.int IntKind.i64 2), Operand.tmp 13], argTypes := #[3, 25] }, type := 41, pos := _, after := _, guard := none }) rfl (fun K hK => ?_) (AllReadyH.cons (o := { dst := some 5, op := Op.alloc 41, type := 0, pos := _, after := _, guard := none }) rfl (fun K hK => ?_) AllReadyH.nil)
    ·go_simp
     refine (ncut_any 2 x.v x.A x.c x.B x.d _).mono ?_
     rintro e wq21 ⟨rfl, hb⟩
     replace HB : Hid (Below w.heap.size w wq21) := HB.out.trans (hb.mono HB.out.size)
     replace HR := Lib.hid (HR.out.kept hb HR.out.1)
     replace HL := Lib.hid (HL.out.kept hb HL.out.1)
     replace HH := Lib.hid (HH.out.kept hb HH.out.1)
     replace H6 := Lib.hid (H6.out.kept hb H6.out.1)
     clear hb hHeld
     refine hK.out _ _ HR.out (fun hHeld => ?_)
     clear hK K
     try simp only [Act.put, p1, p2, p3]
     refine cl 6 rfl fun K hK => ?_
     go_simp
     have hb : Below wq21.heap.size wq21 (wq21.alloc (.cells #[.int .i64 0, .int .u64 0, .int .u64 0, .int .u64 0, .slice none 0 0, .slice none 0 0] 41)) := (Below.refl _ _).alloc (Nat.le_refl _) _
     have hne : wq21.heap.size ≠ wq1.heap.size := Nat.ne_of_gt H6.out.1
     have hp5 : w.heap.size + 2 < wq21.heap.size := HH.out.1
     replace HB : Hid (Below w.heap.size w (wq21.alloc (.cells #[.int .i64 0, .int .u64 0, .int .u64 0, .int .u64 0, .slice none 0 0, .slice none 0 0] 41))) := HB.out.trans (hb.mono HB.out.size)
     replace HR := Lib.hid (HR.out.kept hb HR.out.1)
     replace HL := Lib.hid (HL.out.kept hb HL.out.1)
     replace HH := Lib.hid (HH.out.kept hb HH.out.1)
     replace H6 := Lib.hid (H6.out.kept hb H6.out.1)
     have H5 : Hid (At6B (wq21.alloc (.cells #[.int .i64 0, .int .u64 0, .int .u64 0, .int .u64 0, .slice none 0 0, .slice none 0 0] 41)) wq21.heap.size (.int .i64 0) (.int .u64 0) (.int .u64 0) (.int .u64 0) (.slice none 0 0) (.slice none 0 0)) := At6B.new _ _ _ _ _ _ _ _
     clear hb hHeld
     generalize (wq21.alloc (.cells #[.int .i64 0, .int .u64 0, .int .u64 0, .int .u64 0, .slice none 0 0, .slice none 0 0] 41)) = wq22 at HB HR HL HH H6 H5 ⊢
     refine hK.out _ _ HR.out (fun hHeld => ?_)
     clear hK K
     try simp only [Act.put, p1, p2, p3]
     refine cl 8 rfl fun K hK => ?_
     obtain ⟨z1, z2, s0, s1, s2, s3, s4, s5⟩ := H5.out
     go_simp
     have hb : Below (w.heap.size + 3) wq22 (Span.set6 wq22 (wq21.heap.size) (.int .i64 1) (.int .u64 (x.v.a : Int)) (.int .u64 (x.v.b : Int)) (.int .u64 (x.v.c : Int)) (.slice x.A x.v.pre.length x.c) (.slice none 0 0)) := below_set6 (Below.refl _ _) (by omega) (.int .i64 1) (.int .u64 (x.v.a : Int)) (.int .u64 (x.v.b : Int)) (.int .u64 (x.v.c : Int)) (.slice x.A x.v.pre.length x.c) (.slice none 0 0)
     replace HB : Hid (Below w.heap.size w (Span.set6 wq22 (wq21.heap.size) (.int .i64 1) (.int .u64 (x.v.a : Int)) (.int .u64 (x.v.b : Int)) (.int .u64 (x.v.c : Int)) (.slice x.A x.v.pre.length x.c) (.slice none 0 0))) := below_set6 HB.out (by omega) (.int .i64 1) (.int .u64 (x.v.a : Int)) (.int .u64 (x.v.b : Int)) (.int .u64 (x.v.c : Int)) (.slice x.A x.v.pre.length x.c) (.slice none 0 0)
     replace HR := Lib.hid (HR.out.kept hb (by omega))
     replace HL := Lib.hid (HL.out.kept hb (by omega))
     replace HH := Lib.hid (HH.out.kept hb (by omega))
     replace H5 := Lib.hid (H5.out.set6 (.int .i64 1) (.int .u64 (x.v.a : Int)) (.int .u64 (x.v.b : Int)) (.int .u64 (x.v.c : Int)) (.slice x.A x.v.pre.length x.c) (.slice none 0 0))
     replace H6 := Lib.hid (six_ne H6.out hne.symm (.int .i64 1) (.int .u64 (x.v.a : Int)) (.int .u64 (x.v.b : Int)) (.int .u64 (x.v.c : Int)) (.slice x.A x.v.pre.length x.c) (.slice none 0 0))
     clear hb hHeld z1 z2 s0 s1 s2 s3 s4 s5
     change K _ (Span.set6 wq22 (wq21.heap.size) (.int .i64 1) (.int .u64 (x.v.a : Int)) (.int .u64 (x.v.b : Int)) (.int .u64 (x.v.c : Int)) (.slice x.A x.v.pre.length x.c) (.slice none 0 0))
     generalize Span.set6 wq22 (wq21.heap.size) (.int .i64 1) (.int .u64 (x.v.a : Int)) (.int .u64 (x.v.b : Int)) (.int .u64 (x.v.c : Int)) (.slice x.A x.v.pre.length x.c) (.slice none 0 0) = wq23 at HB HR HL HH H5 H6 ⊢
     refine hK.out _ _ HR.out (fun hHeld => ?_)
     clear hK K
     try simp only [Act.put, p1, p2, p3]
     refine cl 9 rfl fun K hK => ?_
     obtain ⟨z1, z2, s0, s1, s2, s3, s4, s5⟩ := H6.out
     go_simp
     have hb : Below (w.heap.size + 3) wq23 (Span.set6 wq23 (wq1.heap.size) (.int .i64 2) (.int .u64 (x.v.a : Int)) (.int .u64 (x.v.b : Int)) (.int .u64 (x.v.c : Int)) (.slice x.A x.v.pre.length x.c) (.slice none 0 0)) := below_set6 (Below.refl _ _) (by omega) (.int .i64 2) (.int .u64 (x.v.a : Int)) (.int .u64 (x.v.b : Int)) (.int .u64 (x.v.c : Int)) (.slice x.A x.v.pre.length x.c) (.slice none 0 0)
     replace HB : Hid (Below w.heap.size w (Span.set6 wq23 (wq1.heap.size) (.int .i64 2) (.int .u64 (x.v.a : Int)) (.int .u64 (x.v.b : Int)) (.int .u64 (x.v.c : Int)) (.slice x.A x.v.pre.length x.c) (.slice none 0 0))) := below_set6 HB.out (by omega) (.int .i64 2) (.int .u64 (x.v.a : Int)) (.int .u64 (x.v.b : Int)) (.int .u64 (x.v.c : Int)) (.slice x.A x.v.pre.length x.c) (.slice none 0 0)
     replace HR := Lib.hid (HR.out.kept hb (by omega))
     replace HL := Lib.hid (HL.out.kept hb (by omega))
     replace HH := Lib.hid (HH.out.kept hb (by omega))
     replace H6 := Lib.hid (H6.out.set6 (.int .i64 2) (.int .u64 (x.v.a : Int)) (.int .u64 (x.v.b : Int)) (.int .u64 (x.v.c : Int)) (.slice x.A x.v.pre.length x.c) (.slice none 0 0))
     replace H5 := Lib.hid (six_ne H5.out hne (.int .i64 2) (.int .u64 (x.v.a : Int)) (.int .u64 (x.v.b : Int)) (.int .u64 (x.v.c : Int)) (.slice x.A x.v.pre.length x.c) (.slice none 0 0))
     clear hb hHeld z1 z2 s0 s1 s2 s3 s4 s5
     change K _ (Span.set6 wq23 (wq1.heap.size) (.int .i64 2) (.int .u64 (x.v.a : Int)) (.int .u64 (x.v.b : Int)) (.int .u64 (x.v.c : Int)) (.slice x.A x.v.pre.length x.c) (.slice none 0 0))
     generalize Span.set6 wq23 (wq1.heap.size) (.int .i64 2) (.int .u64 (x.v.a : Int)) (.int .u64 (x.v.b : Int)) (.int .u64 (x.v.c : Int)) (.slice x.A x.v.pre.length x.c) (.slice none 0 0) = wq24 at HB HR HL HH H5 H6 ⊢
     refine hK.out _ _ HR.out (fun hHeld => ?_)
     clear hK K
     try simp only [Act.put, p1, p2, p3]
     refine wpAnyH_done (by kernel_rfl) ?_ _
     go_wp2
     go_meet
     exact ⟨_, _, rfl, rfl, H5.out, H6.out, HR.out, HL.out, HH.out, HB.out⟩
    ·go_simp
     have hb : Below wq20.heap.size wq20 (wq20.alloc (.cells #[.int .i64 0, .int .u64 0, .int .u64 0, .int .u64 0, .slice none 0 0, .slice none 0 0] 41)) := (Below.refl _ _).alloc (Nat.le_refl _) _
     have hne : wq20.heap.size ≠ wq1.heap.size := Nat.ne_of_gt H6.out.1
     have hp5 : w.heap.size + 2 < wq20.heap.size := HH.out.1
     replace HB : Hid (Below w.heap.size w (wq20.alloc (.cells #[.int .i64 0, .int .u64 0, .int .u64 0, .int .u64 0, .slice none 0 0, .slice none 0 0] 41))) := HB.out.trans (hb.mono HB.out.size)
     replace HR := Lib.hid (HR.out.kept hb HR.out.1)
     replace HL := Lib.hid (HL.out.kept hb HL.out.1)
     replace HH := Lib.hid (HH.out.kept hb HH.out.1)
     replace H6 := Lib.hid (H6.out.kept hb H6.out.1)
     have H5 : Hid (At6B (wq20.alloc (.cells #[.int .i64 0, .int .u64 0, .int .u64 0, .int .u64 0, .slice none 0 0, .slice none 0 0] 41)) wq20.heap.size (.int .i64 0) (.int .u64 0) (.int .u64 0) (.int .u64 0) (.slice none 0 0) (.slice none 0 0)) := At6B.new _ _ _ _ _ _ _ _
     clear hb hHeld
     generalize (wq20.alloc (.cells #[.int .i64 0, .int .u64 0, .int .u64 0, .int .u64 0, .slice none 0 0, .slice none 0 0] 41)) = wq25 at HB HR HL HH H6 H5 ⊢
     refine hK.out _ _ HR.out (fun hHeld => ?_)
     clear hK K
     try simp only [Act.put, p1, p2, p3]
     refine cl 5 rfl fun K hK => ?_
     go_simp
     refine (ncut_any 2 x.v x.A x.c x.B x.d _).mono ?_
     rintro e wq26 ⟨rfl, hb⟩
     replace HB : Hid (Below w.heap.size w wq26) := HB.out.trans (hb.mono HB.out.size)
     replace HR := Lib.hid (HR.out.kept hb HR.out.1)
     replace HL := Lib.hid (HL.out.kept hb HL.out.1)
     replace HH := Lib.hid (HH.out.kept hb HH.out.1)
     replace H5 := Lib.hid (H5.out.kept hb H5.out.1)
     replace H6 := Lib.hid (H6.out.kept hb H6.out.1)
     clear hb hHeld
     refine hK.out _ _ HR.out (fun hHeld => ?_)
     clear hK K
     try simp only [Act.put, p1, p2, p3]
     refine cl 8 rfl fun K hK => ?_
     obtain ⟨z1, z2, s0, s1, s2, s3, s4, s5⟩ := H5.out
     go_simp
     have hb : Below (w.heap.size + 3) wq26 (Span.set6 wq26 (wq20.heap.size) (.int .i64 1) (.int .u64 (x.v.a : Int)) (.int .u64 (x.v.b : Int)) (.int .u64 (x.v.c : Int)) (.slice x.A x.v.pre.length x.c) (.slice none 0 0)) := below_set6 (Below.refl _ _) (by omega) (.int .i64 1) (.int .u64 (x.v.a : Int)) (.int .u64 (x.v.b : Int)) (.int .u64 (x.v.c : Int)) (.slice x.A x.v.pre.length x.c) (.slice none 0 0)
     replace HB : Hid (Below w.heap.size w (Span.set6 wq26 (wq20.heap.size) (.int .i64 1) (.int .u64 (x.v.a : Int)) (.int .u64 (x.v.b : Int)) (.int .u64 (x.v.c : Int)) (.slice x.A x.v.pre.length x.c) (.slice none 0 0))) := below_set6 HB.out (by omega) (.int .i64 1) (.int .u64 (x.v.a : Int)) (.int .u64 (x.v.b : Int)) (.int .u64 (x.v.c : Int)) (.slice x.A x.v.pre.length x.c) (.slice none 0 0)
     replace HR := Lib.hid (HR.out.kept hb (by omega))
     replace HL := Lib.hid (HL.out.kept hb (by omega))
     replace HH := Lib.hid (HH.out.kept hb (by omega))
     replace H5 := Lib.hid (H5.out.set6 (.int .i64 1) (.int .u64 (x.v.a : Int)) (.int .u64 (x.v.b : Int)) (.int .u64 (x.v.c : Int)) (.slice x.A x.v.pre.length x.c) (.slice none 0 0))
     replace H6 := Lib.hid (six_ne H6.out hne.symm (.int .i64 1) (.int .u64 (x.v.a : Int)) (.int .u64 (x.v.b : Int)) (.int .u64 (x.v.c : Int)) (.slice x.A x.v.pre.length x.c) (.slice none 0 0))
     clear hb hHeld z1 z2 s0 s1 s2 s3 s4 s5
     change K _ (Span.set6 wq26 (wq20.heap.size) (.int .i64 1) (.int .u64 (x.v.a : Int)) (.int .u64 (x.v.b : Int)) (.int .u64 (x.v.c : Int)) (.slice x.A x.v.pre.length x.c) (.slice none 0 0))
     generalize Span.set6 wq26 (wq20.heap.size) (.int .i64 1) (.int .u64 (x.v.a : Int)) (.int .u64 (x.v.b : Int)) (.int .u64 (x.v.c : Int)) (.slice x.A x.v.pre.length x.c) (.slice none 0 0) = wq27 at HB HR HL HH H5 H6 ⊢
     refine hK.out _ _ HR.out (fun hHeld => ?_)
     clear hK K
     try simp only [Act.put, p1, p2, p3]
     refine cl 9 rfl fun K hK => ?_
     obtain ⟨z1, z2, s0, s1, s2, s3, s4, s5⟩ := H6.out
     go_simp
     have hb : Below (w.heap.size + 3) wq27 (Span.set6 wq27 (wq1.heap.size) (.int .i64 2) (.int .u64 (x.v.a : Int)) (.int .u64 (x.v.b : Int)) (.int .u64 (x.v.c : Int)) (.slice x.A x.v.pre.length x.c) (.slice none 0 0)) := below_set6 (Below.refl _ _) (by omega) (.int .i64 2) (.int .u64 (x.v.a : Int)) (.int .u64 (x.v.b : Int)) (.int .u64 (x.v.c : Int)) (.slice x.A x.v.pre.length x.c) (.slice none 0 0)
     replace HB : Hid (Below w.heap.size w (Span.set6 wq27 (wq1.heap.size) (.int .i64 2) (.int .u64 (x.v.a : Int)) (.int .u64 (x.v.b : Int)) (.int .u64 (x.v.c : Int)) (.slice x.A x.v.pre.length x.c) (.slice none 0 0))) := below_set6 HB.out (by omega) (.int .i64 2) (.int .u64 (x.v.a : Int)) (.int .u64 (x.v.b : Int)) (.int .u64 (x.v.c : Int)) (.slice x.A x.v.pre.length x.c) (.slice none 0 0)
     replace HR := Lib.hid (HR.out.kept hb (by omega))
     replace HL := Lib.hid (HL.out.kept hb (by omega))
     replace HH := Lib.hid (HH.out.kept hb (by omega))
     replace H6 := Lib.hid (H6.out.set6 (.int .i64 2) (.int .u64 (x.v.a : Int)) (.int .u64 (x.v.b : Int)) (.int .u64 (x.v.c : Int)) (.slice x.A x.v.pre.length x.c) (.slice none 0 0))
     replace H5 := Lib.hid (six_ne H5.out hne (.int .i64 2) (.int .u64 (x.v.a : Int)) (.int .u64 (x.v.b : Int)) (.int .u64 (x.v.c : Int)) (.slice x.A x.v.pre.length x.c) (.slice none 0 0))
     clear hb hHeld z1 z2 s0 s1 s2 s3 s4 s5
     change K _ (Span.set6 wq27 (wq1.heap.size) (.int .i64 2) (.int .u64 (x.v.a : Int)) (.int .u64 (x.v.b : Int)) (.int .u64 (x.v.c : Int)) (.slice x.A x.v.pre.length x.c) (.slice none 0 0))
     generalize Span.set6 wq27 (wq1.heap.size) (.int .i64 2) (.int .u64 (x.v.a : Int)) (.int .u64 (x.v.b : Int)) (.int .u64 (x.v.c : Int)) (.slice x.A x.v.pre.length x.c) (.slice none 0 0) = wq28 at HB HR HL HH H5 H6 ⊢
     refine hK.out _ _ HR.out (fun hHeld => ?_)
     clear hK K
     try simp only [Act.put, p1, p2, p3]
     refine wpAnyH_done (by kernel_rfl) ?_ _
     go_wp2
     go_meet
     exact ⟨_, _, rfl, rfl, H5.out, H6.out, HR.out, HL.out, HH.out, HB.out⟩
  ·go_simp
   have hb : Below W1.heap.size W1 (W1.alloc (.cells #[.int .i64 0, .int .u64 0, .int .u64 0, .int .u64 0, .slice none 0 0, .slice none 0 0] 41)) := (Below.refl _ _).alloc (Nat.le_refl _) _
   have hp5 : w.heap.size + 2 < W1.heap.size := HH.out.1
   replace HB : Hid (Below w.heap.size w (W1.alloc (.cells #[.int .i64 0, .int .u64 0, .int .u64 0, .int .u64 0, .slice none 0 0, .slice none 0 0] 41))) := HB.out.trans (hb.mono HB.out.size)
   replace HR := Lib.hid (HR.out.kept hb HR.out.1)
   replace HL := Lib.hid (HL.out.kept hb HL.out.1)
   replace HH := Lib.hid (HH.out.kept hb HH.out.1)
   have H5 : Hid (At6B (W1.alloc (.cells #[.int .i64 0, .int .u64 0, .int .u64 0, .int .u64 0, .slice none 0 0, .slice none 0 0] 41)) W1.heap.size (.int .i64 0) (.int .u64 0) (.int .u64 0) (.int .u64 0) (.slice none 0 0) (.slice none 0 0)) := At6B.new _ _ _ _ _ _ _ _
   clear hb hHeld
   generalize (W1.alloc (.cells #[.int .i64 0, .int .u64 0, .int .u64 0, .int .u64 0, .slice none 0 0, .slice none 0 0] 41)) = wq29 at HB HR HL HH H5 ⊢
   refine hK.out _ _ HR.out (fun hHeld => ?_)
   clear hK K
   try simp only [Act.put, p1, p2, p3]
   refine wpAnyH_ready (rs := [2, 7]) (by kernel_rfl) (by simp) ?_
   refine AllReadyH.cons (o := { dst := some 11, op := Op.call { callee := Callee.value (Operand.func 96), args := #[Operand.const (Value.int IntKind.i64 1), Operand.tmp 10], argTypes := #[3, 25] }, type := 41, pos := _, after := _, guard := none }) rfl (fun K hK => ?_) (AllReadyH.cons (o := { dst := some 6, op := Op.alloc 41, type := 0, pos := _, after := _, guard := none }) rfl (fun K hK => ?_) AllReadyH.nil)
   ·go_simp
    refine (ncut_any 1 x.v x.A x.c x.B x.d _).mono ?_
    rintro e wq30 ⟨rfl, hb⟩
    replace HB : Hid (Below w.heap.size w wq30) := HB.out.trans (hb.mono HB.out.size)
    replace HR := Lib.hid (HR.out.kept hb HR.out.1)
    replace HL := Lib.hid (HL.out.kept hb HL.out.1)
    replace HH := Lib.hid (HH.out.kept hb HH.out.1)
    replace H5 := Lib.hid (H5.out.kept hb H5.out.1)
    clear hb hHeld
    refine hK.out _ _ HR.out (fun hHeld => ?_)
    clear hK K
    try simp only [Act.put, p1, p2, p3]
    refine wpAnyH_ready (rs := [5, 7]) (by kernel_rfl) (by simp) ?_
    refine AllReadyH.cons (o := { dst := some 14, op := Op.call { callee := Callee.value (Operand.func 96), args := #[Operand.const (Value.int IntKind.i64 2), Operand.tmp 13], argTypes := #[3, 25] }, type := 41, pos := _, after := _, guard := none }) rfl (fun K hK => ?_) (AllReadyH.cons (o := { dst := some 6, op := Op.alloc 41, type := 0, pos := _, after := _, guard := none }) rfl (fun K hK => ?_) AllReadyH.nil)
    ·go_simp
     refine (ncut_any 2 x.v x.A x.c x.B x.d _).mono ?_
     rintro e wq31 ⟨rfl, hb⟩
     replace HB : Hid (Below w.heap.size w wq31) := HB.out.trans (hb.mono HB.out.size)
     replace HR := Lib.hid (HR.out.kept hb HR.out.1)
     replace HL := Lib.hid (HL.out.kept hb HL.out.1)
     replace HH := Lib.hid (HH.out.kept hb HH.out.1)
     replace H5 := Lib.hid (H5.out.kept hb H5.out.1)
     clear hb hHeld
     refine hK.out _ _ HR.out (fun hHeld => ?_)
     clear hK K
     try simp only [Act.put, p1, p2, p3]
     refine cl 7 rfl fun K hK => ?_
     go_simp
     have hb : Below wq31.heap.size wq31 (wq31.alloc (.cells #[.int .i64 0, .int .u64 0, .int .u64 0, .int .u64 0, .slice none 0 0, .slice none 0 0] 41)) := (Below.refl _ _).alloc (Nat.le_refl _) _
     have hne : W1.heap.size ≠ wq31.heap.size := Nat.ne_of_lt H5.out.1
     have hp6 : w.heap.size + 2 < wq31.heap.size := HH.out.1
     replace HB : Hid (Below w.heap.size w (wq31.alloc (.cells #[.int .i64 0, .int .u64 0, .int .u64 0, .int .u64 0, .slice none 0 0, .slice none 0 0] 41))) := HB.out.trans (hb.mono HB.out.size)
     replace HR := Lib.hid (HR.out.kept hb HR.out.1)
     replace HL := Lib.hid (HL.out.kept hb HL.out.1)
     replace HH := Lib.hid (HH.out.kept hb HH.out.1)
     replace H5 := Lib.hid (H5.out.kept hb H5.out.1)
     have H6 : Hid (At6B (wq31.alloc (.cells #[.int .i64 0, .int .u64 0, .int .u64 0, .int .u64 0, .slice none 0 0, .slice none 0 0] 41)) wq31.heap.size (.int .i64 0) (.int .u64 0) (.int .u64 0) (.int .u64 0) (.slice none 0 0) (.slice none 0 0)) := At6B.new _ _ _ _ _ _ _ _
     clear hb hHeld
     generalize (wq31.alloc (.cells #[.int .i64 0, .int .u64 0, .int .u64 0, .int .u64 0, .slice none 0 0, .slice none 0 0] 41)) = wq32 at HB HR HL HH H5 H6 ⊢
     refine hK.out _ _ HR.out (fun hHeld => ?_)
     clear hK K
     try simp only [Act.put, p1, p2, p3]
     refine cl 8 rfl fun K hK => ?_
     obtain ⟨z1, z2, s0, s1, s2, s3, s4, s5⟩ := H5.out
     go_simp
     have hb : Below (w.heap.size + 3) wq32 (Span.set6 wq32 (W1.heap.size) (.int .i64 1) (.int .u64 (x.v.a : Int)) (.int .u64 (x.v.b : Int)) (.int .u64 (x.v.c : Int)) (.slice x.A x.v.pre.length x.c) (.slice none 0 0)) := below_set6 (Below.refl _ _) (by omega) (.int .i64 1) (.int .u64 (x.v.a : Int)) (.int .u64 (x.v.b : Int)) (.int .u64 (x.v.c : Int)) (.slice x.A x.v.pre.length x.c) (.slice none 0 0)
     replace HB : Hid (Below w.heap.size w (Span.set6 wq32 (W1.heap.size) (.int .i64 1) (.int .u64 (x.v.a : Int)) (.int .u64 (x.v.b : Int)) (.int .u64 (x.v.c : Int)) (.slice x.A x.v.pre.length x.c) (.slice none 0 0))) := below_set6 HB.out (by omega) (.int .i64 1) (.int .u64 (x.v.a : Int)) (.int .u64 (x.v.b : Int)) (.int .u64 (x.v.c : Int)) (.slice x.A x.v.pre.length x.c) (.slice none 0 0)
     replace HR := Lib.hid (HR.out.kept hb (by omega))
     replace HL := Lib.hid (HL.out.kept hb (by omega))
     replace HH := Lib.hid (HH.out.kept hb (by omega))
     replace H5 := Lib.hid (H5.out.set6 (.int .i64 1) (.int .u64 (x.v.a : Int)) (.int .u64 (x.v.b : Int)) (.int .u64 (x.v.c : Int)) (.slice x.A x.v.pre.length x.c) (.slice none 0 0))
     replace H6 := Lib.hid (six_ne H6.out hne.symm (.int .i64 1) (.int .u64 (x.v.a : Int)) (.int .u64 (x.v.b : Int)) (.int .u64 (x.v.c : Int)) (.slice x.A x.v.pre.length x.c) (.slice none 0 0))
     clear hb hHeld z1 z2 s0 s1 s2 s3 s4 s5
     change K _ (Span.set6 wq32 (W1.heap.size) (.int .i64 1) (.int .u64 (x.v.a : Int)) (.int .u64 (x.v.b : Int)) (.int .u64 (x.v.c : Int)) (.slice x.A x.v.pre.length x.c) (.slice none 0 0))
     generalize Span.set6 wq32 (W1.heap.size) (.int .i64 1) (.int .u64 (x.v.a : Int)) (.int .u64 (x.v.b : Int)) (.int .u64 (x.v.c : Int)) (.slice x.A x.v.pre.length x.c) (.slice none 0 0) = wq33 at HB HR HL HH H5 H6 ⊢
     refine hK.out _ _ HR.out (fun hHeld => ?_)
     clear hK K
     try simp only [Act.put, p1, p2, p3]
     refine cl 9 rfl fun K hK => ?_
     obtain ⟨z1, z2, s0, s1, s2, s3, s4, s5⟩ := H6.out
     go_simp
     have hb : Below (w.heap.size + 3) wq33 (Span.set6 wq33 (wq31.heap.size) (.int .i64 2) (.int .u64 (x.v.a : Int)) (.int .u64 (x.v.b : Int)) (.int .u64 (x.v.c : Int)) (.slice x.A x.v.pre.length x.c) (.slice none 0 0)) := below_set6 (Below.refl _ _) (by omega) (.int .i64 2) (.int .u64 (x.v.a : Int)) (.int .u64 (x.v.b : Int)) (.int .u64 (x.v.c : Int)) (.slice x.A x.v.pre.length x.c) (.slice none 0 0)
     replace HB : Hid (Below w.heap.size w (Span.set6 wq33 (wq31.heap.size) (.int .i64 2) (.int .u64 (x.v.a : Int)) (.int .u64 (x.v.b : Int)) (.int .u64 (x.v.c : Int)) (.slice x.A x.v.pre.length x.c) (.slice none 0 0))) := below_set6 HB.out (by omega) (.int .i64 2) (.int .u64 (x.v.a : Int)) (.int .u64 (x.v.b : Int)) (.int .u64 (x.v.c : Int)) (.slice x.A x.v.pre.length x.c) (.slice none 0 0)
     replace HR := Lib.hid (HR.out.kept hb (by omega))
     replace HL := Lib.hid (HL.out.kept hb (by omega))
     replace HH := Lib.hid (HH.out.kept hb (by omega))
     replace H6 := Lib.hid (H6.out.set6 (.int .i64 2) (.int .u64 (x.v.a : Int)) (.int .u64 (x.v.b : Int)) (.int .u64 (x.v.c : Int)) (.slice x.A x.v.pre.length x.c) (.slice none 0 0))
     replace H5 := Lib.hid (six_ne H5.out hne (.int .i64 2) (.int .u64 (x.v.a : Int)) (.int .u64 (x.v.b : Int)) (.int .u64 (x.v.c : Int)) (.slice x.A x.v.pre.length x.c) (.slice none 0 0))
     clear hb hHeld z1 z2 s0 s1 s2 s3 s4 s5
     change K _ (Span.set6 wq33 (wq31.heap.size) (.int .i64 2) (.int .u64 (x.v.a : Int)) (.int .u64 (x.v.b : Int)) (.int .u64 (x.v.c : Int)) (.slice x.A x.v.pre.length x.c) (.slice none 0 0))
     generalize Span.set6 wq33 (wq31.heap.size) (.int .i64 2) (.int .u64 (x.v.a : Int)) (.int .u64 (x.v.b : Int)) (.int .u64 (x.v.c : Int)) (.slice x.A x.v.pre.length x.c) (.slice none 0 0) = wq34 at HB HR HL HH H5 H6 ⊢
     refine hK.out _ _ HR.out (fun hHeld => ?_)
     clear hK K
     try simp only [Act.put, p1, p2, p3]
     refine wpAnyH_done (by kernel_rfl) ?_ _
     go_wp2
     go_meet
     exact ⟨_, _, rfl, rfl, H5.out, H6.out, HR.out, HL.out, HH.out, HB.out⟩
    ·go_simp
     have hb : Below wq30.heap.size wq30 (wq30.alloc (.cells #[.int .i64 0, .int .u64 0, .int .u64 0, .int .u64 0, .slice none 0 0, .slice none 0 0] 41)) := (Below.refl _ _).alloc (Nat.le_refl _) _
     have hne : W1.heap.size ≠ wq30.heap.size := Nat.ne_of_lt H5.out.1
     have hp6 : w.heap.size + 2 < wq30.heap.size := HH.out.1
     replace HB : Hid (Below w.heap.size w (wq30.alloc (.cells #[.int .i64 0, .int .u64 0, .int .u64 0, .int .u64 0, .slice none 0 0, .slice none 0 0] 41))) := HB.out.trans (hb.mono HB.out.size)
     replace HR := Lib.hid (HR.out.kept hb HR.out.1)
     replace HL := Lib.hid (HL.out.kept hb HL.out.1)
     replace HH := Lib.hid (HH.out.kept hb HH.out.1)
     replace H5 := Lib.hid (H5.out.kept hb H5.out.1)
     have H6 : Hid (At6B (wq30.alloc (.cells #[.int .i64 0, .int .u64 0, .int .u64 0, .int .u64 0, .slice none 0 0, .slice none 0 0] 41)) wq30.heap.size (.int .i64 0) (.int .u64 0) (.int .u64 0) (.int .u64 0) (.slice none 0 0) (.slice none 0 0)) := At6B.new _ _ _ _ _ _ _ _
     clear hb hHeld
     generalize (wq30.alloc (.cells #[.int .i64 0, .int .u64 0, .int .u64 0, .int .u64 0, .slice none 0 0, .slice none 0 0] 41)) = wq35 at HB HR HL HH H5 H6 ⊢
     refine hK.out _ _ HR.out (fun hHeld => ?_)
     clear hK K
     try simp only [Act.put, p1, p2, p3]
     refine cl 5 rfl fun K hK => ?_
     go_simp
     refine (ncut_any 2 x.v x.A x.c x.B x.d _).mono ?_
     rintro e wq36 ⟨rfl, hb⟩
     replace HB : Hid (Below w.heap.size w wq36) := HB.out.trans (hb.mono HB.out.size)
     replace HR := Lib.hid (HR.out.kept hb HR.out.1)
     replace HL := Lib.hid (HL.out.kept hb HL.out.1)
     replace HH := Lib.hid (HH.out.kept hb HH.out.1)
     replace H5 := Lib.hid (H5.out.kept hb H5.out.1)
     replace H6 := Lib.hid (H6.out.kept hb H6.out.1)
     clear hb hHeld
     refine hK.out _ _ HR.out (fun hHeld => ?_)
     clear hK K
     try simp only [Act.put, p1, p2, p3]
     refine cl 8 rfl fun K hK => ?_
     obtain ⟨z1, z2, s0, s1, s2, s3, s4, s5⟩ := H5.out
     go_simp
     have hb : Below (w.heap.size + 3) wq36 (Span.set6 wq36 (W1.heap.size) (.int .i64 1) (.int .u64 (x.v.a : Int)) (.int .u64 (x.v.b : Int)) (.int .u64 (x.v.c : Int)) (.slice x.A x.v.pre.length x.c) (.slice none 0 0)) := below_set6 (Below.refl _ _) (by omega) (.int .i64 1) (.int .u64 (x.v.a : Int)) (.int .u64 (x.v.b : Int)) (.int .u64 (x.v.c : Int)) (.slice x.A x.v.pre.length x.c) (.slice none 0 0)
     replace HB : Hid (Below w.heap.size w (Span.set6 wq36 (W1.heap.size) (.int .i64 1) (.int .u64 (x.v.a : Int)) (.int .u64 (x.v.b : Int)) (.int .u64 (x.v.c : Int)) (.slice x.A x.v.pre.length x.c) (.slice none 0 0))) := below_set6 HB.out (by omega) (.int .i64 1) (.int .u64 (x.v.a : Int)) (.int .u64 (x.v.b : Int)) (.int .u64 (x.v.c : Int)) (.slice x.A x.v.pre.length x.c) (.slice none 0 0)
     replace HR := Lib.hid (HR.out.kept hb (by omega))
     replace HL := Lib.hid (HL.out.kept hb (by omega))
     replace HH := Lib.hid (HH.out.kept hb (by omega))
     replace H5 := Lib.hid (H5.out.set6 (.int .i64 1) (.int .u64 (x.v.a : Int)) (.int .u64 (x.v.b : Int)) (.int .u64 (x.v.c : Int)) (.slice x.A x.v.pre.length x.c) (.slice none 0 0))
     replace H6 := Lib.hid (six_ne H6.out hne.symm (.int .i64 1) (.int .u64 (x.v.a : Int)) (.int .u64 (x.v.b : Int)) (.int .u64 (x.v.c : Int)) (.slice x.A x.v.pre.length x.c) (.slice none 0 0))
     clear hb hHeld z1 z2 s0 s1 s2 s3 s4 s5
     change K _ (Span.set6 wq36 (W1.heap.size) (.int .i64 1) (.int .u64 (x.v.a : Int)) (.int .u64 (x.v.b : Int)) (.int .u64 (x.v.c : Int)) (.slice x.A x.v.pre.length x.c) (.slice none 0 0))
     generalize Span.set6 wq36 (W1.heap.size) (.int .i64 1) (.int .u64 (x.v.a : Int)) (.int .u64 (x.v.b : Int)) (.int .u64 (x.v.c : Int)) (.slice x.A x.v.pre.length x.c) (.slice none 0 0) = wq37 at HB HR HL HH H5 H6 ⊢
     refine hK.out _ _ HR.out (fun hHeld => ?_)
     clear hK K
     try simp only [Act.put, p1, p2, p3]
     refine cl 9 rfl fun K hK => ?_
     obtain ⟨z1, z2, s0, s1, s2, s3, s4, s5⟩ := H6.out
     go_simp
     have hb : Below (w.heap.size + 3) wq37 (Span.set6 wq37 (wq30.heap.size) (.int .i64 2) (.int .u64 (x.v.a : Int)) (.int .u64 (x.v.b : Int)) (.int .u64 (x.v.c : Int)) (.slice x.A x.v.pre.length x.c) (.slice none 0 0)) := below_set6 (Below.refl _ _) (by omega) (.int .i64 2) (.int .u64 (x.v.a : Int)) (.int .u64 (x.v.b : Int)) (.int .u64 (x.v.c : Int)) (.slice x.A x.v.pre.length x.c) (.slice none 0 0)
     replace HB : Hid (Below w.heap.size w (Span.set6 wq37 (wq30.heap.size) (.int .i64 2) (.int .u64 (x.v.a : Int)) (.int .u64 (x.v.b : Int)) (.int .u64 (x.v.c : Int)) (.slice x.A x.v.pre.length x.c) (.slice none 0 0))) := below_set6 HB.out (by omega) (.int .i64 2) (.int .u64 (x.v.a : Int)) (.int .u64 (x.v.b : Int)) (.int .u64 (x.v.c : Int)) (.slice x.A x.v.pre.length x.c) (.slice none 0 0)
     replace HR := Lib.hid (HR.out.kept hb (by omega))
     replace HL := Lib.hid (HL.out.kept hb (by omega))
     replace HH := Lib.hid (HH.out.kept hb (by omega))
     replace H6 := Lib.hid (H6.out.set6 (.int .i64 2) (.int .u64 (x.v.a : Int)) (.int .u64 (x.v.b : Int)) (.int .u64 (x.v.c : Int)) (.slice x.A x.v.pre.length x.c) (.slice none 0 0))
     replace H5 := Lib.hid (six_ne H5.out hne (.int .i64 2) (.int .u64 (x.v.a : Int)) (.int .u64 (x.v.b : Int)) (.int .u64 (x.v.c : Int)) (.slice x.A x.v.pre.length x.c) (.slice none 0 0))
     clear hb hHeld z1 z2 s0 s1 s2 s3 s4 s5
     change K _ (Span.set6 wq37 (wq30.heap.size) (.int .i64 2) (.int .u64 (x.v.a : Int)) (.int .u64 (x.v.b : Int)) (.int .u64 (x.v.c : Int)) (.slice x.A x.v.pre.length x.c) (.slice none 0 0))
     generalize Span.set6 wq37 (wq30.heap.size) (.int .i64 2) (.int .u64 (x.v.a : Int)) (.int .u64 (x.v.b : Int)) (.int .u64 (x.v.c : Int)) (.slice x.A x.v.pre.length x.c) (.slice none 0 0) = wq38 at HB HR HL HH H5 H6 ⊢
     refine hK.out _ _ HR.out (fun hHeld => ?_)
     clear hK K
     try simp only [Act.put, p1, p2, p3]
     refine wpAnyH_done (by kernel_rfl) ?_ _
     go_wp2
     go_meet
     exact ⟨_, _, rfl, rfl, H5.out, H6.out, HR.out, HL.out, HH.out, HB.out⟩
   ·go_simp
    have hb : Below wq29.heap.size wq29 (wq29.alloc (.cells #[.int .i64 0, .int .u64 0, .int .u64 0, .int .u64 0, .slice none 0 0, .slice none 0 0] 41)) := (Below.refl _ _).alloc (Nat.le_refl _) _
    have hne : W1.heap.size ≠ wq29.heap.size := Nat.ne_of_lt H5.out.1
    have hp6 : w.heap.size + 2 < wq29.heap.size := HH.out.1
    replace HB : Hid (Below w.heap.size w (wq29.alloc (.cells #[.int .i64 0, .int .u64 0, .int .u64 0, .int .u64 0, .slice none 0 0, .slice none 0 0] 41))) := HB.out.trans (hb.mono HB.out.size)
    replace HR := Lib.hid (HR.out.kept hb HR.out.1)
    replace HL := Lib.hid (HL.out.kept hb HL.out.1)
    replace HH := Lib.hid (HH.out.kept hb HH.out.1)
    replace H5 := Lib.hid (H5.out.kept hb H5.out.1)
    have H6 : Hid (At6B (wq29.alloc (.cells #[.int .i64 0, .int .u64 0, .int .u64 0, .int .u64 0, .slice none 0 0, .slice none 0 0] 41)) wq29.heap.size (.int .i64 0) (.int .u64 0) (.int .u64 0) (.int .u64 0) (.slice none 0 0) (.slice none 0 0)) := At6B.new _ _ _ _ _ _ _ _
    clear hb hHeld
    generalize (wq29.alloc (.cells #[.int .i64 0, .int .u64 0, .int .u64 0, .int .u64 0, .slice none 0 0, .slice none 0 0] 41)) = wq39 at HB HR HL HH H5 H6 ⊢
    refine hK.out _ _ HR.out (fun hHeld => ?_)
    clear hK K
    try simp only [Act.put, p1, p2, p3]
    refine cl 2 rfl fun K hK => ?_
    go_simp
    refine (ncut_any 1 x.v x.A x.c x.B x.d _).mono ?_
    rintro e wq40 ⟨rfl, hb⟩
    replace HB : Hid (Below w.heap.size w wq40) := HB.out.trans (hb.mono HB.out.size)
    replace HR := Lib.hid (HR.out.kept hb HR.out.1)
    replace HL := Lib.hid (HL.out.kept hb HL.out.1)
    replace HH := Lib.hid (HH.out.kept hb HH.out.1)
    replace H5 := Lib.hid (H5.out.kept hb H5.out.1)
    replace H6 := Lib.hid (H6.out.kept hb H6.out.1)
    clear hb hHeld
    refine hK.out _ _ HR.out (fun hHeld => ?_)
    clear hK K
    try simp only [Act.put, p1, p2, p3]
    refine cl 5 rfl fun K hK => ?_
    go_simp
    refine (ncut_any 2 x.v x.A x.c x.B x.d _).mono ?_
    rintro e wq41 ⟨rfl, hb⟩
    replace HB : Hid (Below w.heap.size w wq41) := HB.out.trans (hb.mono HB.out.size)
    replace HR := Lib.hid (HR.out.kept hb HR.out.1)
    replace HL := Lib.hid (HL.out.kept hb HL.out.1)
    replace HH := Lib.hid (HH.out.kept hb HH.out.1)
    replace H5 := Lib.hid (H5.out.kept hb H5.out.1)
    replace H6 := Lib.hid (H6.out.kept hb H6.out.1)
    clear hb hHeld
    refine hK.out _ _ HR.out (fun hHeld => ?_)
    clear hK K
    try simp only [Act.put, p1, p2, p3]
    refine cl 8 rfl fun K hK => ?_
    obtain ⟨z1, z2, s0, s1, s2, s3, s4, s5⟩ := H5.out
    go_simp
    have hb : Below (w.heap.size + 3) wq41 (Span.set6 wq41 (W1.heap.size) (.int .i64 1) (.int .u64 (x.v.a : Int)) (.int .u64 (x.v.b : Int)) (.int .u64 (x.v.c : Int)) (.slice x.A x.v.pre.length x.c) (.slice none 0 0)) := below_set6 (Below.refl _ _) (by omega) (.int .i64 1) (.int .u64 (x.v.a : Int)) (.int .u64 (x.v.b : Int)) (.int .u64 (x.v.c : Int)) (.slice x.A x.v.pre.length x.c) (.slice none 0 0)
    replace HB : Hid (Below w.heap.size w (Span.set6 wq41 (W1.heap.size) (.int .i64 1) (.int .u64 (x.v.a : Int)) (.int .u64 (x.v.b : Int)) (.int .u64 (x.v.c : Int)) (.slice x.A x.v.pre.length x.c) (.slice none 0 0))) := below_set6 HB.out (by omega) (.int .i64 1) (.int .u64 (x.v.a : Int)) (.int .u64 (x.v.b : Int)) (.int .u64 (x.v.c : Int)) (.slice x.A x.v.pre.length x.c) (.slice none 0 0)
    replace HR := Lib.hid (HR.out.kept hb (by omega))
    replace HL := Lib.hid (HL.out.kept hb (by omega))
    replace HH := Lib.hid (HH.out.kept hb (by omega))
    replace H5 := Lib.hid (H5.out.set6 (.int .i64 1) (.int .u64 (x.v.a : Int)) (.int .u64 (x.v.b : Int)) (.int .u64 (x.v.c : Int)) (.slice x.A x.v.pre.length x.c) (.slice none 0 0))
    replace H6 := Lib.hid (six_ne H6.out hne.symm (.int .i64 1) (.int .u64 (x.v.a : Int)) (.int .u64 (x.v.b : Int)) (.int .u64 (x.v.c : Int)) (.slice x.A x.v.pre.length x.c) (.slice none 0 0))
    clear hb hHeld z1 z2 s0 s1 s2 s3 s4 s5
    change K _ (Span.set6 wq41 (W1.heap.size) (.int .i64 1) (.int .u64 (x.v.a : Int)) (.int .u64 (x.v.b : Int)) (.int .u64 (x.v.c : Int)) (.slice x.A x.v.pre.length x.c) (.slice none 0 0))
    generalize Span.set6 wq41 (W1.heap.size) (.int .i64 1) (.int .u64 (x.v.a : Int)) (.int .u64 (x.v.b : Int)) (.int .u64 (x.v.c : Int)) (.slice x.A x.v.pre.length x.c) (.slice none 0 0) = wq42 at HB HR HL HH H5 H6 ⊢
    refine hK.out _ _ HR.out (fun hHeld => ?_)
    clear hK K
    try simp only [Act.put, p1, p2, p3]
    refine cl 9 rfl fun K hK => ?_
    obtain ⟨z1, z2, s0, s1, s2, s3, s4, s5⟩ := H6.out
    go_simp
    have hb : Below (w.heap.size + 3) wq42 (Span.set6 wq42 (wq29.heap.size) (.int .i64 2) (.int .u64 (x.v.a : Int)) (.int .u64 (x.v.b : Int)) (.int .u64 (x.v.c : Int)) (.slice x.A x.v.pre.length x.c) (.slice none 0 0)) := below_set6 (Below.refl _ _) (by omega) (.int .i64 2) (.int .u64 (x.v.a : Int)) (.int .u64 (x.v.b : Int)) (.int .u64 (x.v.c : Int)) (.slice x.A x.v.pre.length x.c) (.slice none 0 0)
    replace HB : Hid (Below w.heap.size w (Span.set6 wq42 (wq29.heap.size) (.int .i64 2) (.int .u64 (x.v.a : Int)) (.int .u64 (x.v.b : Int)) (.int .u64 (x.v.c : Int)) (.slice x.A x.v.pre.length x.c) (.slice none 0 0))) := below_set6 HB.out (by omega) (.int .i64 2) (.int .u64 (x.v.a : Int)) (.int .u64 (x.v.b : Int)) (.int .u64 (x.v.c : Int)) (.slice x.A x.v.pre.length x.c) (.slice none 0 0)
    replace HR := Lib.hid (HR.out.kept hb (by omega))
    replace HL := Lib.hid (HL.out.kept hb (by omega))
    replace HH := Lib.hid (HH.out.kept hb (by omega))
    replace H6 := Lib.hid (H6.out.set6 (.int .i64 2) (.int .u64 (x.v.a : Int)) (.int .u64 (x.v.b : Int)) (.int .u64 (x.v.c : Int)) (.slice x.A x.v.pre.length x.c) (.slice none 0 0))
    replace H5 := Lib.hid (six_ne H5.out hne (.int .i64 2) (.int .u64 (x.v.a : Int)) (.int .u64 (x.v.b : Int)) (.int .u64 (x.v.c : Int)) (.slice x.A x.v.pre.length x.c) (.slice none 0 0))
    clear hb hHeld z1 z2 s0 s1 s2 s3 s4 s5
    change K _ (Span.set6 wq42 (wq29.heap.size) (.int .i64 2) (.int .u64 (x.v.a : Int)) (.int .u64 (x.v.b : Int)) (.int .u64 (x.v.c : Int)) (.slice x.A x.v.pre.length x.c) (.slice none 0 0))
    generalize Span.set6 wq42 (wq29.heap.size) (.int .i64 2) (.int .u64 (x.v.a : Int)) (.int .u64 (x.v.b : Int)) (.int .u64 (x.v.c : Int)) (.slice x.A x.v.pre.length x.c) (.slice none 0 0) = wq43 at HB HR HL HH H5 H6 ⊢
    refine hK.out _ _ HR.out (fun hHeld => ?_)
    clear hK K
    try simp only [Act.put, p1, p2, p3]
    refine wpAnyH_done (by kernel_rfl) ?_ _
    go_wp2
    go_meet
    exact ⟨_, _, rfl, rfl, H5.out, H6.out, HR.out, HL.out, HH.out, HB.out⟩
  ·go_simp
   have hb : Below W1.heap.size W1 (W1.alloc (.cells #[.int .i64 0, .int .u64 0, .int .u64 0, .int .u64 0, .slice none 0 0, .slice none 0 0] 41)) := (Below.refl _ _).alloc (Nat.le_refl _) _
   have hp6 : w.heap.size + 2 < W1.heap.size := HH.out.1
   replace HB : Hid (Below w.heap.size w (W1.alloc (.cells #[.int .i64 0, .int .u64 0, .int .u64 0, .int .u64 0, .slice none 0 0, .slice none 0 0] 41))) := HB.out.trans (hb.mono HB.out.size)
   replace HR := Lib.hid (HR.out.kept hb HR.out.1)
   replace HL := Lib.hid (HL.out.kept hb HL.out.1)
   replace HH := Lib.hid (HH.out.kept hb HH.out.1)
   have H6 : Hid (At6B (W1.alloc (.cells #[.int .i64 0, .int .u64 0, .int .u64 0, .int .u64 0, .slice none 0 0, .slice none 0 0] 41)) W1.heap.size (.int .i64 0) (.int .u64 0) (.int .u64 0) (.int .u64 0) (.slice none 0 0) (.slice none 0 0)) := At6B.new _ _ _ _ _ _ _ _
   clear hb hHeld
   generalize (W1.alloc (.cells #[.int .i64 0, .int .u64 0, .int .u64 0, .int .u64 0, .slice none 0 0, .slice none 0 0] 41)) = wq44 at HB HR HL HH H6 ⊢
   refine hK.out _ _ HR.out (fun hHeld => ?_)
   clear hK K
   try simp only [Act.put, p1, p2, p3]
   refine wpAnyH_ready (rs := [2, 6]) (by kernel_rfl) (by simp) ?_
   refine AllReadyH.cons (o := { dst := some 11, op := Op.call { callee := Callee.value (Operand.func 96), args := #[Operand.const (Value.int IntKind.i64 1), Operand.tmp 10], argTypes := #[3, 25] }, type := 41, pos := _, after := _, guard := none }) rfl (fun K hK => ?_) (AllReadyH.cons (o := { dst := some 5, op := Op.alloc 41, type := 0, pos := _, after := _, guard := none }) rfl (fun K hK => ?_) AllReadyH.nil)
   ·go_simp
    refine (ncut_any 1 x.v x.A x.c x.B x.d _).mono ?_
    rintro e wq45 ⟨rfl, hb⟩
    replace HB : Hid (Below w.heap.size w wq45) := HB.out.trans (hb.mono HB.out.size)
    replace HR := Lib.hid (HR.out.kept hb HR.out.1)
    replace HL := Lib.hid (HL.out.kept hb HL.out.1)
    replace HH := Lib.hid (HH.out.kept hb HH.out.1)
    replace H6 := Lib.hid (H6.out.kept hb H6.out.1)
    clear hb hHeld
    refine hK.out _ _ HR.out (fun hHeld => ?_)
    clear hK K
    try simp only [Act.put, p1, p2, p3]
    refine wpAnyH_ready (rs := [5, 6]) (by kernel_rfl) (by simp) ?_
    refine AllReadyH.cons (o := { dst := some 14, op := Op.call { callee := Callee.value (Operand.func 96), args := #[Operand.const (Value.int IntKind.i64 2), Operand.tmp 13], argTypes := #[3, 25] }, type := 41, pos := _, after := _, guard := none }) rfl (fun K hK => ?_) (AllReadyH.cons (o := { dst := some 5, op := Op.alloc 41, type := 0, pos := _, after := _, guard := none }) rfl (fun K hK => ?_) AllReadyH.nil)
    ·go_simp
     refine (ncut_any 2 x.v x.A x.c x.B x.d _).mono ?_
     rintro e wq46 ⟨rfl, hb⟩
     replace HB : Hid (Below w.heap.size w wq46) := HB.out.trans (hb.mono HB.out.size)
     replace HR := Lib.hid (HR.out.kept hb HR.out.1)
     replace HL := Lib.hid (HL.out.kept hb HL.out.1)
     replace HH := Lib.hid (HH.out.kept hb HH.out.1)
     replace H6 := Lib.hid (H6.out.kept hb H6.out.1)
     clear hb hHeld
     refine hK.out _ _ HR.out (fun hHeld => ?_)
     clear hK K
     try simp only [Act.put, p1, p2, p3]
     refine cl 6 rfl fun K hK => ?_
     go_simp
     have hb : Below wq46.heap.size wq46 (wq46.alloc (.cells #[.int .i64 0, .int .u64 0, .int .u64 0, .int .u64 0, .slice none 0 0, .slice none 0 0] 41)) := (Below.refl _ _).alloc (Nat.le_refl _) _
     have hne : wq46.heap.size ≠ W1.heap.size := Nat.ne_of_gt H6.out.1
     have hp5 : w.heap.size + 2 < wq46.heap.size := HH.out.1
     replace HB : Hid (Below w.heap.size w (wq46.alloc (.cells #[.int .i64 0, .int .u64 0, .int .u64 0, .int .u64 0, .slice none 0 0, .slice none 0 0] 41))) := HB.out.trans (hb.mono HB.out.size)
     replace HR := Lib.hid (HR.out.kept hb HR.out.1)
     replace HL := Lib.hid (HL.out.kept hb HL.out.1)
     replace HH := Lib.hid (HH.out.kept hb HH.out.1)
     replace H6 := Lib.hid (H6.out.kept hb H6.out.1)
     have H5 : Hid (At6B (wq46.alloc (.cells #[.int .i64 0, .int .u64 0, .int .u64 0, .int .u64 0, .slice none 0 0, .slice none 0 0] 41)) wq46.heap.size (.int .i64 0) (.int .u64 0) (.int .u64 0) (.int .u64 0) (.slice none 0 0) (.slice none 0 0)) := At6B.new _ _ _ _ _ _ _ _
     clear hb hHeld
     generalize (wq46.alloc (.cells #[.int .i64 0, .int .u64 0, .int .u64 0, .int .u64 0, .slice none 0 0, .slice none 0 0] 41)) = wq47 at HB HR HL HH H6 H5 ⊢
     refine hK.out _ _ HR.out (fun hHeld => ?_)
     clear hK K
     try simp only [Act.put, p1, p2, p3]
     refine cl 8 rfl fun K hK => ?_
     obtain ⟨z1, z2, s0, s1, s2, s3, s4, s5⟩ := H5.out
     go_simp
     have hb : Below (w.heap.size + 3) wq47 (Span.set6 wq47 (wq46.heap.size) (.int .i64 1) (.int .u64 (x.v.a : Int)) (.int .u64 (x.v.b : Int)) (.int .u64 (x.v.c : Int)) (.slice x.A x.v.pre.length x.c) (.slice none 0 0)) := below_set6 (Below.refl _ _) (by omega) (.int .i64 1) (.int .u64 (x.v.a : Int)) (.int .u64 (x.v.b : Int)) (.int .u64 (x.v.c : Int)) (.slice x.A x.v.pre.length x.c) (.slice none 0 0)
     replace HB : Hid (Below w.heap.size w (Span.set6 wq47 (wq46.heap.size) (.int .i64 1) (.int .u64 (x.v.a : Int)) (.int .u64 (x.v.b : Int)) (.int .u64 (x.v.c : Int)) (.slice x.A x.v.pre.length x.c) (.slice none 0 0))) := below_set6 HB.out (by omega) (.int .i64 1) (.int .u64 (x.v.a : Int)) (.int .u64 (x.v.b : Int)) (.int .u64 (x.v.c : Int)) (.slice x.A x.v.pre.length x.c) (.slice none 0 0)
     replace HR := Lib.hid (HR.out.kept hb (by omega))
     replace HL := Lib.hid (HL.out.kept hb (by omega))
     replace HH := Lib.hid (HH.out.kept hb (by omega))
     replace H5 := Lib.hid (H5.out.set6 (.int .i64 1) (.int .u64 (x.v.a : Int)) (.int .u64 (x.v.b : Int)) (.int .u64 (x.v.c : Int)) (.slice x.A x.v.pre.length x.c) (.slice none 0 0))
     replace H6 := Lib.hid (six_ne H6.out hne.symm (.int .i64 1) (.int .u64 (x.v.a : Int)) (.int .u64 (x.v.b : Int)) (.int .u64 (x.v.c : Int)) (.slice x.A x.v.pre.length x.c) (.slice none 0 0))
     clear hb hHeld z1 z2 s0 s1 s2 s3 s4 s5
     change K _ (Span.set6 wq47 (wq46.heap.size) (.int .i64 1) (.int .u64 (x.v.a : Int)) (.int .u64 (x.v.b : Int)) (.int .u64 (x.v.c : Int)) (.slice x.A x.v.pre.length x.c) (.slice none 0 0))
     generalize Span.set6 wq47 (wq46.heap.size) (.int .i64 1) (.int .u64 (x.v.a : Int)) (.int .u64 (x.v.b : Int)) (.int .u64 (x.v.c : Int)) (.slice x.A x.v.pre.length x.c) (.slice none 0 0) = wq48 at HB HR HL HH H5 H6 ⊢
     refine hK.out _ _ HR.out (fun hHeld => ?_)
     clear hK K
     try simp only [Act.put, p1, p2, p3]
     refine cl 9 rfl fun K hK => ?_
     obtain ⟨z1, z2, s0, s1, s2, s3, s4, s5⟩ := H6.out
     go_simp
     have hb : Below (w.heap.size + 3) wq48 (Span.set6 wq48 (W1.heap.size) (.int .i64 2) (.int .u64 (x.v.a : Int)) (.int .u64 (x.v.b : Int)) (.int .u64 (x.v.c : Int)) (.slice x.A x.v.pre.length x.c) (.slice none 0 0)) := below_set6 (Below.refl _ _) (by omega) (.int .i64 2) (.int .u64 (x.v.a : Int)) (.int .u64 (x.v.b : Int)) (.int .u64 (x.v.c : Int)) (.slice x.A x.v.pre.length x.c) (.slice none 0 0)
     replace HB : Hid (Below w.heap.size w (Span.set6 wq48 (W1.heap.size) (.int .i64 2) (.int .u64 (x.v.a : Int)) (.int .u64 (x.v.b : Int)) (.int .u64 (x.v.c : Int)) (.slice x.A x.v.pre.length x.c) (.slice none 0 0))) := below_set6 HB.out (by omega) (.int .i64 2) (.int .u64 (x.v.a : Int)) (.int .u64 (x.v.b : Int)) (.int .u64 (x.v.c : Int)) (.slice x.A x.v.pre.length x.c) (.slice none 0 0)
     replace HR := Lib.hid (HR.out.kept hb (by omega))
     replace HL := Lib.hid (HL.out.kept hb (by omega))
     replace HH := Lib.hid (HH.out.kept hb (by omega))
     replace H6 := Lib.hid (H6.out.set6 (.int .i64 2) (.int .u64 (x.v.a : Int)) (.int .u64 (x.v.b : Int)) (.int .u64 (x.v.c : Int)) (.slice x.A x.v.pre.length x.c) (.slice none 0 0))
     replace H5 := Lib.hid (six_ne H5.out hne (.int .i64 2) (.int .u64 (x.v.a : Int)) (.int .u64 (x.v.b : Int)) (.int .u64 (x.v.c : Int)) (.slice x.A x.v.pre.length x.c) (.slice none 0 0))
     clear hb hHeld z1 z2 s0 s1 s2 s3 s4 s5
     change K _ (Span.set6 wq48 (W1.heap.size) (.int .i64 2) (.int .u64 (x.v.a : Int)) (.int .u64 (x.v.b : Int)) (.int .u64 (x.v.c : Int)) (.slice x.A x.v.pre.length x.c) (.slice none 0 0))
     generalize Span.set6 wq48 (W1.heap.size) (.int .i64 2) (.int .u64 (x.v.a : Int)) (.int .u64 (x.v.b : Int)) (.int .u64 (x.v.c : Int)) (.slice x.A x.v.pre.length x.c) (.slice none 0 0) = wq49 at HB HR HL HH H5 H6 ⊢
     refine hK.out _ _ HR.out (fun hHeld => ?_)
     clear hK K
     try simp only [Act.put, p1, p2, p3]
     refine wpAnyH_done (by kernel_rfl) ?_ _
     go_wp2
     go_meet
     exact ⟨_, _, rfl, rfl, H5.out, H6.out, HR.out, HL.out, HH.out, HB.out⟩
    ·go_simp
     have hb : Below wq45.heap.size wq45 (wq45.alloc (.cells #[.int .i64 0, .int .u64 0, .int .u64 0, .int .u64 0, .slice none 0 0, .slice none 0 0] 41)) := (Below.refl _ _).alloc (Nat.le_refl _) _
     have hne : wq45.heap.size ≠ W1.heap.size := Nat.ne_of_gt H6.out.1
     have hp5 : w.heap.size + 2 < wq45.heap.size := HH.out.1
     replace HB : Hid (Below w.heap.size w (wq45.alloc (.cells #[.int .i64 0, .int .u64 0, .int .u64 0, .int .u64 0, .slice none 0 0, .slice none 0 0] 41))) := HB.out.trans (hb.mono HB.out.size)
     replace HR := Lib.hid (HR.out.kept hb HR.out.1)
     replace HL := Lib.hid (HL.out.kept hb HL.out.1)
     replace HH := Lib.hid (HH.out.kept hb HH.out.1)
     replace H6 := Lib.hid (H6.out.kept hb H6.out.1)
     have H5 : Hid (At6B (wq45.alloc (.cells #[.int .i64 0, .int .u64 0, .int .u64 0, .int .u64 0, .slice none 0 0, .slice none 0 0] 41)) wq45.heap.size (.int .i64 0) (.int .u64 0) (.int .u64 0) (.int .u64 0) (.slice none 0 0) (.slice none 0 0)) := At6B.new _ _ _ _ _ _ _ _
     clear hb hHeld
     generalize (wq45.alloc (.cells #[.int .i64 0, .int .u64 0, .int .u64 0, .int .u64 0, .slice none 0 0, .slice none 0 0] 41)) = wq50 at HB HR HL HH H6 H5 ⊢
     refine hK.out _ _ HR.out (fun hHeld => ?_)
     clear hK K
     try simp only [Act.put, p1, p2, p3]
     refine cl 5 rfl fun K hK => ?_
     go_simp
     refine (ncut_any 2 x.v x.A x.c x.B x.d _).mono ?_
     rintro e wq51 ⟨rfl, hb⟩
     replace HB : Hid (Below w.heap.size w wq51) := HB.out.trans (hb.mono HB.out.size)
     replace HR := Lib.hid (HR.out.kept hb HR.out.1)
     replace HL := Lib.hid (HL.out.kept hb HL.out.1)
     replace HH := Lib.hid (HH.out.kept hb HH.out.1)
     replace H5 := Lib.hid (H5.out.kept hb H5.out.1)
     replace H6 := Lib.hid (H6.out.kept hb H6.out.1)
     clear hb hHeld
     refine hK.out _ _ HR.out (fun hHeld => ?_)
     clear hK K
     try simp only [Act.put, p1, p2, p3]
     refine cl 8 rfl fun K hK => ?_
     obtain ⟨z1, z2, s0, s1, s2, s3, s4, s5⟩ := H5.out
     go_simp
     have hb : Below (w.heap.size + 3) wq51 (Span.set6 wq51 (wq45.heap.size) (.int .i64 1) (.int .u64 (x.v.a : Int)) (.int .u64 (x.v.b : Int)) (.int .u64 (x.v.c : Int)) (.slice x.A x.v.pre.length x.c) (.slice none 0 0)) := below_set6 (Below.refl _ _) (by omega) (.int .i64 1) (.int .u64 (x.v.a : Int)) (.int .u64 (x.v.b : Int)) (.int .u64 (x.v.c : Int)) (.slice x.A x.v.pre.length x.c) (.slice none 0 0)
     replace HB : Hid (Below w.heap.size w (Span.set6 wq51 (wq45.heap.size) (.int .i64 1) (.int .u64 (x.v.a : Int)) (.int .u64 (x.v.b : Int)) (.int .u64 (x.v.c : Int)) (.slice x.A x.v.pre.length x.c) (.slice none 0 0))) := below_set6 HB.out (by omega) (.int .i64 1) (.int .u64 (x.v.a : Int)) (.int .u64 (x.v.b : Int)) (.int .u64 (x.v.c : Int)) (.slice x.A x.v.pre.length x.c) (.slice none 0 0)
     replace HR := Lib.hid (HR.out.kept hb (by omega))
     replace HL := Lib.hid (HL.out.kept hb (by omega))
     replace HH := Lib.hid (HH.out.kept hb (by omega))
     replace H5 := Lib.hid (H5.out.set6 (.int .i64 1) (.int .u64 (x.v.a : Int)) (.int .u64 (x.v.b : Int)) (.int .u64 (x.v.c : Int)) (.slice x.A x.v.pre.length x.c) (.slice none 0 0))
     replace H6 := Lib.hid (six_ne H6.out hne.symm (.int .i64 1) (.int .u64 (x.v.a : Int)) (.int .u64 (x.v.b : Int)) (.int .u64 (x.v.c : Int)) (.slice x.A x.v.pre.length x.c) (.slice none 0 0))
     clear hb hHeld z1 z2 s0 s1 s2 s3 s4 s5
     change K _ (Span.set6 wq51 (wq45.heap.size) (.int .i64 1) (.int .u64 (x.v.a : Int)) (.int .u64 (x.v.b : Int)) (.int .u64 (x.v.c : Int)) (.slice x.A x.v.pre.length x.c) (.slice none 0 0))
     generalize Span.set6 wq51 (wq45.heap.size) (.int .i64 1) (.int .u64 (x.v.a : Int)) (.int .u64 (x.v.b : Int)) (.int .u64 (x.v.c : Int)) (.slice x.A x.v.pre.length x.c) (.slice none 0 0) = wq52 at HB HR HL HH H5 H6 ⊢
     refine hK.out _ _ HR.out (fun hHeld => ?_)
     clear hK K
     try simp only [Act.put, p1, p2, p3]
     refine cl 9 rfl fun K hK => ?_
     obtain ⟨z1, z2, s0, s1, s2, s3, s4, s5⟩ := H6.out
     go_simp
     have hb : Below (w.heap.size + 3) wq52 (Span.set6 wq52 (W1.heap.size) (.int .i64 2) (.int .u64 (x.v.a : Int)) (.int .u64 (x.v.b : Int)) (.int .u64 (x.v.c : Int)) (.slice x.A x.v.pre.length x.c) (.slice none 0 0)) := below_set6 (Below.refl _ _) (by omega) (.int .i64 2) (.int .u64 (x.v.a : Int)) (.int .u64 (x.v.b : Int)) (.int .u64 (x.v.c : Int)) (.slice x.A x.v.pre.length x.c) (.slice none 0 0)
     replace HB : Hid (Below w.heap.size w (Span.set6 wq52 (W1.heap.size) (.int .i64 2) (.int .u64 (x.v.a : Int)) (.int .u64 (x.v.b : Int)) (.int .u64 (x.v.c : Int)) (.slice x.A x.v.pre.length x.c) (.slice none 0 0))) := below_set6 HB.out (by omega) (.int .i64 2) (.int .u64 (x.v.a : Int)) (.int .u64 (x.v.b : Int)) (.int .u64 (x.v.c : Int)) (.slice x.A x.v.pre.length x.c) (.slice none 0 0)
     replace HR := Lib.hid (HR.out.kept hb (by omega))
     replace HL := Lib.hid (HL.out.kept hb (by omega))
     replace HH := Lib.hid (HH.out.kept hb (by omega))
     replace H6 := Lib.hid (H6.out.set6 (.int .i64 2) (.int .u64 (x.v.a : Int)) (.int .u64 (x.v.b : Int)) (.int .u64 (x.v.c : Int)) (.slice x.A x.v.pre.length x.c) (.slice none 0 0))
     replace H5 := Lib.hid (six_ne H5.out hne (.int .i64 2) (.int .u64 (x.v.a : Int)) (.int .u64 (x.v.b : Int)) (.int .u64 (x.v.c : Int)) (.slice x.A x.v.pre.length x.c) (.slice none 0 0))
     clear hb hHeld z1 z2 s0 s1 s2 s3 s4 s5
     change K _ (Span.set6 wq52 (W1.heap.size) (.int .i64 2) (.int .u64 (x.v.a : Int)) (.int .u64 (x.v.b : Int)) (.int .u64 (x.v.c : Int)) (.slice x.A x.v.pre.length x.c) (.slice none 0 0))
     generalize Span.set6 wq52 (W1.heap.size) (.int .i64 2) (.int .u64 (x.v.a : Int)) (.int .u64 (x.v.b : Int)) (.int .u64 (x.v.c : Int)) (.slice x.A x.v.pre.length x.c) (.slice none 0 0) = wq53 at HB HR HL HH H5 H6 ⊢
     refine hK.out _ _ HR.out (fun hHeld => ?_)
     clear hK K
     try simp only [Act.put, p1, p2, p3]
     refine wpAnyH_done (by kernel_rfl) ?_ _
     go_wp2
     go_meet
     exact ⟨_, _, rfl, rfl, H5.out, H6.out, HR.out, HL.out, HH.out, HB.out⟩
   ·go_simp
    have hb : Below wq44.heap.size wq44 (wq44.alloc (.cells #[.int .i64 0, .int .u64 0, .int .u64 0, .int .u64 0, .slice none 0 0, .slice none 0 0] 41)) := (Below.refl _ _).alloc (Nat.le_refl _) _
    have hne : wq44.heap.size ≠ W1.heap.size := Nat.ne_of_gt H6.out.1
    have hp5 : w.heap.size + 2 < wq44.heap.size := HH.out.1
    replace HB : Hid (Below w.heap.size w (wq44.alloc (.cells #[.int .i64 0, .int .u64 0, .int .u64 0, .int .u64 0, .slice none 0 0, .slice none 0 0] 41))) := HB.out.trans (hb.mono HB.out.size)
    replace HR := Lib.hid (HR.out.kept hb HR.out.1)
    replace HL := Lib.hid (HL.out.kept hb HL.out.1)
    replace HH := Lib.hid (HH.out.kept hb HH.out.1)
    replace H6 := Lib.hid (H6.out.kept hb H6.out.1)
    have H5 : Hid (At6B (wq44.alloc (.cells #[.int .i64 0, .int .u64 0, .int .u64 0, .int .u64 0, .slice none 0 0, .slice none 0 0] 41)) wq44.heap.size (.int .i64 0) (.int .u64 0) (.int .u64 0) (.int .u64 0) (.slice none 0 0) (.slice none 0 0)) := At6B.new _ _ _ _ _ _ _ _
    clear hb hHeld
    generalize (wq44.alloc (.cells #[.int .i64 0, .int .u64 0, .int .u64 0, .int .u64 0, .slice none 0 0, .slice none 0 0] 41)) = wq54 at HB HR HL HH H6 H5 ⊢
    refine hK.out _ _ HR.out (fun hHeld => ?_)
    clear hK K
    try simp only [Act.put, p1, p2, p3]
    refine cl 2 rfl fun K hK => ?_
    go_simp
    refine (ncut_any 1 x.v x.A x.c x.B x.d _).mono ?_
    rintro e wq55 ⟨rfl, hb⟩
    replace HB : Hid (Below w.heap.size w wq55) := HB.out.trans (hb.mono HB.out.size)
    replace HR := Lib.hid (HR.out.kept hb HR.out.1)
    replace HL := Lib.hid (HL.out.kept hb HL.out.1)
    replace HH := Lib.hid (HH.out.kept hb HH.out.1)
    replace H5 := Lib.hid (H5.out.kept hb H5.out.1)
    replace H6 := Lib.hid (H6.out.kept hb H6.out.1)
    clear hb hHeld
    refine hK.out _ _ HR.out (fun hHeld => ?_)
    clear hK K
    try simp only [Act.put, p1, p2, p3]
    refine cl 5 rfl fun K hK => ?_
    go_simp
    refine (ncut_any 2 x.v x.A x.c x.B x.d _).mono ?_
    rintro e wq56 ⟨rfl, hb⟩
    replace HB : Hid (Below w.heap.size w wq56) := HB.out.trans (hb.mono HB.out.size)
    replace HR := Lib.hid (HR.out.kept hb HR.out.1)
    replace HL := Lib.hid (HL.out.kept hb HL.out.1)
    replace HH := Lib.hid (HH.out.kept hb HH.out.1)
    replace H5 := Lib.hid (H5.out.kept hb H5.out.1)
    replace H6 := Lib.hid (H6.out.kept hb H6.out.1)
    clear hb hHeld
    refine hK.out _ _ HR.out (fun hHeld => ?_)
    clear hK K
    try simp only [Act.put, p1, p2, p3]
    refine cl 8 rfl fun K hK => ?_
    obtain ⟨z1, z2, s0, s1, s2, s3, s4, s5⟩ := H5.out
    go_simp
    have hb : Below (w.heap.size + 3) wq56 (Span.set6 wq56 (wq44.heap.size) (.int .i64 1) (.int .u64 (x.v.a : Int)) (.int .u64 (x.v.b : Int)) (.int .u64 (x.v.c : Int)) (.slice x.A x.v.pre.length x.c) (.slice none 0 0)) := below_set6 (Below.refl _ _) (by omega) (.int .i64 1) (.int .u64 (x.v.a : Int)) (.int .u64 (x.v.b : Int)) (.int .u64 (x.v.c : Int)) (.slice x.A x.v.pre.length x.c) (.slice none 0 0)
    replace HB : Hid (Below w.heap.size w (Span.set6 wq56 (wq44.heap.size) (.int .i64 1) (.int .u64 (x.v.a : Int)) (.int .u64 (x.v.b : Int)) (.int .u64 (x.v.c : Int)) (.slice x.A x.v.pre.length x.c) (.slice none 0 0))) := below_set6 HB.out (by omega) (.int .i64 1) (.int .u64 (x.v.a : Int)) (.int .u64 (x.v.b : Int)) (.int .u64 (x.v.c : Int)) (.slice x.A x.v.pre.length x.c) (.slice none 0 0)
    replace HR := Lib.hid (HR.out.kept hb (by omega))
    replace HL := Lib.hid (HL.out.kept hb (by omega))
    replace HH := Lib.hid (HH.out.kept hb (by omega))
    replace H5 := Lib.hid (H5.out.set6 (.int .i64 1) (.int .u64 (x.v.a : Int)) (.int .u64 (x.v.b : Int)) (.int .u64 (x.v.c : Int)) (.slice x.A x.v.pre.length x.c) (.slice none 0 0))
    replace H6 := Lib.hid (six_ne H6.out hne.symm (.int .i64 1) (.int .u64 (x.v.a : Int)) (.int .u64 (x.v.b : Int)) (.int .u64 (x.v.c : Int)) (.slice x.A x.v.pre.length x.c) (.slice none 0 0))
    clear hb hHeld z1 z2 s0 s1 s2 s3 s4 s5
    change K _ (Span.set6 wq56 (wq44.heap.size) (.int .i64 1) (.int .u64 (x.v.a : Int)) (.int .u64 (x.v.b : Int)) (.int .u64 (x.v.c : Int)) (.slice x.A x.v.pre.length x.c) (.slice none 0 0))
    generalize Span.set6 wq56 (wq44.heap.size) (.int .i64 1) (.int .u64 (x.v.a : Int)) (.int .u64 (x.v.b : Int)) (.int .u64 (x.v.c : Int)) (.slice x.A x.v.pre.length x.c) (.slice none 0 0) = wq57 at HB HR HL HH H5 H6 ⊢
    refine hK.out _ _ HR.out (fun hHeld => ?_)
    clear hK K
    try simp only [Act.put, p1, p2, p3]
    refine cl 9 rfl fun K hK => ?_
    obtain ⟨z1, z2, s0, s1, s2, s3, s4, s5⟩ := H6.out
    go_simp
    have hb : Below (w.heap.size + 3) wq57 (Span.set6 wq57 (W1.heap.size) (.int .i64 2) (.int .u64 (x.v.a : Int)) (.int .u64 (x.v.b : Int)) (.int .u64 (x.v.c : Int)) (.slice x.A x.v.pre.length x.c) (.slice none 0 0)) := below_set6 (Below.refl _ _) (by omega) (.int .i64 2) (.int .u64 (x.v.a : Int)) (.int .u64 (x.v.b : Int)) (.int .u64 (x.v.c : Int)) (.slice x.A x.v.pre.length x.c) (.slice none 0 0)
    replace HB : Hid (Below w.heap.size w (Span.set6 wq57 (W1.heap.size) (.int .i64 2) (.int .u64 (x.v.a : Int)) (.int .u64 (x.v.b : Int)) (.int .u64 (x.v.c : Int)) (.slice x.A x.v.pre.length x.c) (.slice none 0 0))) := below_set6 HB.out (by omega) (.int .i64 2) (.int .u64 (x.v.a : Int)) (.int .u64 (x.v.b : Int)) (.int .u64 (x.v.c : Int)) (.slice x.A x.v.pre.length x.c) (.slice none 0 0)
    replace HR := Lib.hid (HR.out.kept hb (by omega))
    replace HL := Lib.hid (HL.out.kept hb (by omega))
    replace HH := Lib.hid (HH.out.kept hb (by omega))
    replace H6 := Lib.hid (H6.out.set6 (.int .i64 2) (.int .u64 (x.v.a : Int)) (.int .u64 (x.v.b : Int)) (.int .u64 (x.v.c : Int)) (.slice x.A x.v.pre.length x.c) (.slice none 0 0))
    replace H5 := Lib.hid (six_ne H5.out hne (.int .i64 2) (.int .u64 (x.v.a : Int)) (.int .u64 (x.v.b : Int)) (.int .u64 (x.v.c : Int)) (.slice x.A x.v.pre.length x.c) (.slice none 0 0))
    clear hb hHeld z1 z2 s0 s1 s2 s3 s4 s5
    change K _ (Span.set6 wq57 (W1.heap.size) (.int .i64 2) (.int .u64 (x.v.a : Int)) (.int .u64 (x.v.b : Int)) (.int .u64 (x.v.c : Int)) (.slice x.A x.v.pre.length x.c) (.slice none 0 0))
    generalize Span.set6 wq57 (W1.heap.size) (.int .i64 2) (.int .u64 (x.v.a : Int)) (.int .u64 (x.v.b : Int)) (.int .u64 (x.v.c : Int)) (.slice x.A x.v.pre.length x.c) (.slice none 0 0) = wq58 at HB HR HL HH H5 H6 ⊢
    refine hK.out _ _ HR.out (fun hHeld => ?_)
    clear hK K
    try simp only [Act.put, p1, p2, p3]
    refine wpAnyH_done (by kernel_rfl) ?_ _
    go_wp2
    go_meet
    exact ⟨_, _, rfl, rfl, H5.out, H6.out, HR.out, HL.out, HH.out, HB.out⟩
 case rest =>
  obtain ⟨p5, p6, rfl, rfl, h5, h6, hr, hl, hh, hb⟩ := hcut
  replace HB := Lib.hid hb
  replace HR := Lib.hid hr
  replace HL := Lib.hid hl
  replace HH := Lib.hid hh
  have H5 := Lib.hid h5
  have H6 := Lib.hid h6
  have HV : Hid (SRow wc x.A x.v.pre.length x.v.pre) := HRow.out.kept HB.out
  clear hb hr hl hh h5 h6
  obtain ⟨y1, y2, c0, c1, c2, c3, c4, c5, c6⟩ := HR.out
  have hk9 : x.kind = 0 ∨ (goodV x.v = true ∧ (x.kind = 1 ∨ x.kind = 2 ∨ x.kind = 3 ∨ x.kind = 4 ∨ x.kind = 5 ∨ x.kind = 6 ∨ x.kind = 7 ∨ x.kind = 8)) := by
   rcases hk with h | ⟨h1, h2, h3⟩
   ·exact .inl h
   ·exact .inr ⟨h3, by omega⟩
  clear hk HG
  rcases hk9 with hk | ⟨hg, hk⟩
  rotate_left
  have HG := Lib.hid hg
  clear hg
  rcases hk with hk | hk | hk | hk | hk | hk | hk | hk
  ·have hks : x.kind = 1 := hk
   rw [hks] at c0
   have HK := Lib.hid hks
   clear hk hks
   obtain ⟨_, _, a0, a1, a2, a3, a4, a5⟩ := H5.out
   obtain ⟨_, _, b0, b1, b2, b3, b4, b5⟩ := HH.out
   go_wp2_with fail
   refine (between_any ⟨1, bare x.v, x.A, x.c, none, 0⟩ rhigh _ ⟨HV.out, SRow.none_ _ _, HF.out, Fit.nil⟩ (Span.Lies.high _)).mono ?_
   intro e w3 h3
   have HS : Hid (SetIn w 2 (SetOf (.mk x.kind x.v [])) e w3) := setIn_imp (h3.mono HB.out) (fun o ho => by rw [HK.out]; exact set_span (k := 1) (by omega) (by omega) (by omega) (.inr HG.out) [] ho) (by omega)
   obtain ⟨A3, n3, cc3, out, rfl, q1, q2, q3, q4, q5, q6, q7⟩ := HS.out
   clear h3
   go_wp2
   go_ret
   exact HS.out
  ·have hks : x.kind = 2 := hk
   rw [hks] at c0
   have HK := Lib.hid hks
   clear hk hks
   obtain ⟨_, _, a0, a1, a2, a3, a4, a5⟩ := H6.out
   obtain ⟨_, _, b0, b1, b2, b3, b4, b5⟩ := HH.out
   go_wp2_with fail
   refine (between_any ⟨2, bare x.v, x.A, x.c, none, 0⟩ rhigh _ ⟨HV.out, SRow.none_ _ _, HF.out, Fit.nil⟩ (Span.Lies.high _)).mono ?_
   intro e w3 h3
   have HS : Hid (SetIn w 2 (SetOf (.mk x.kind x.v [])) e w3) := setIn_imp (h3.mono HB.out) (fun o ho => by rw [HK.out]; exact set_span (k := 2) (by omega) (by omega) (by omega) (.inr HG.out) [] ho) (by omega)
   obtain ⟨A3, n3, cc3, out, rfl, q1, q2, q3, q4, q5, q6, q7⟩ := HS.out
   clear h3
   go_wp2
   go_ret
   exact HS.out
  ·have hks : x.kind = 3 := hk
   rw [hks] at c0
   have HK := Lib.hid hks
   clear hk hks
   obtain ⟨_, _, a0, a1, a2, a3, a4, a5⟩ := HL.out
   obtain ⟨_, _, b0, b1, b2, b3, b4, b5⟩ := H6.out
   go_wp2_with fail
   refine (between_any rlow ⟨2, bare x.v, x.A, x.c, none, 0⟩ _ (Span.Lies.low _) ⟨HV.out, SRow.none_ _ _, HF.out, Fit.nil⟩).mono ?_
   intro e w3 h3
   have HS : Hid (SetIn w 2 (SetOf (.mk x.kind x.v [])) e w3) := setIn_imp (h3.mono HB.out) (fun o ho => by rw [HK.out]; exact set_span (k := 3) (by omega) (by omega) (by omega) (.inr HG.out) [] ho) (by omega)
   obtain ⟨A3, n3, cc3, out, rfl, q1, q2, q3, q4, q5, q6, q7⟩ := HS.out
   clear h3
   go_wp2
   go_ret
   exact HS.out
  ·have hks : x.kind = 4 := hk
   rw [hks] at c0
   have HK := Lib.hid hks
   clear hk hks
   obtain ⟨_, _, a0, a1, a2, a3, a4, a5⟩ := HL.out
   obtain ⟨_, _, b0, b1, b2, b3, b4, b5⟩ := H5.out
   go_wp2_with fail
   refine (between_any rlow ⟨1, bare x.v, x.A, x.c, none, 0⟩ _ (Span.Lies.low _) ⟨HV.out, SRow.none_ _ _, HF.out, Fit.nil⟩).mono ?_
   intro e w3 h3
   have HS : Hid (SetIn w 2 (SetOf (.mk x.kind x.v [])) e w3) := setIn_imp (h3.mono HB.out) (fun o ho => by rw [HK.out]; exact set_span (k := 4) (by omega) (by omega) (by omega) (.inr HG.out) [] ho) (by omega)
   obtain ⟨A3, n3, cc3, out, rfl, q1, q2, q3, q4, q5, q6, q7⟩ := HS.out
   clear h3
   go_wp2
   go_ret
   exact HS.out
  ·have hks : x.kind = 5 := hk
   rw [hks] at c0
   have HK := Lib.hid hks
   clear hk hks
   obtain ⟨_, _, a0, a1, a2, a3, a4, a5⟩ := H5.out
   obtain ⟨_, _, b0, b1, b2, b3, b4, b5⟩ := H6.out
   go_wp2_with fail
   refine (between_any ⟨1, bare x.v, x.A, x.c, none, 0⟩ ⟨2, bare x.v, x.A, x.c, none, 0⟩ _ ⟨HV.out, SRow.none_ _ _, HF.out, Fit.nil⟩ ⟨HV.out, SRow.none_ _ _, HF.out, Fit.nil⟩).mono ?_
   intro e w3 h3
   have HS : Hid (SetIn w 2 (SetOf (.mk x.kind x.v [])) e w3) := setIn_imp (h3.mono HB.out) (fun o ho => by rw [HK.out]; exact set_span (k := 5) (by omega) (by omega) (by omega) (.inr HG.out) [] ho) (by omega)
   obtain ⟨A3, n3, cc3, out, rfl, q1, q2, q3, q4, q5, q6, q7⟩ := HS.out
   clear h3
   go_wp2
   go_ret
   exact HS.out
  ·have hks : x.kind = 6 := hk
   rw [hks] at c0
   have HK := Lib.hid hks
   clear hk hks
   obtain ⟨_, _, a0, a1, a2, a3, a4, a5⟩ := H5.out
   obtain ⟨_, _, b0, b1, b2, b3, b4, b5⟩ := H6.out
   go_wp2_with fail
   refine (between_any ⟨1, bare x.v, x.A, x.c, none, 0⟩ ⟨2, bare x.v, x.A, x.c, none, 0⟩ _ ⟨HV.out, SRow.none_ _ _, HF.out, Fit.nil⟩ ⟨HV.out, SRow.none_ _ _, HF.out, Fit.nil⟩).mono ?_
   rintro e w3 ⟨A3, n3, cc3, out, rfl, q1, q2, q3, q4, q5, q6, hb⟩
   have HQ1 := Lib.hid q1
   have HQ3 := Lib.hid q3
   have HB3 := Lib.hid (HB.out.trans (hb.mono HB.out.size))
   clear q1 q3 q4 q5 q6 hb a0 a1 a2 a3 a4 a5 b0 b1 b2 b3 b4 b5 c0 c1 c2 c3 c4 c5 c6
   go_wp2_with fail
   refine (not_in A3 n3 cc3 out _ HQ1.out (by omega)).mono ?_
   intro e w4 h4
   have HS : Hid (SetIn w 2 (SetOf (.mk x.kind x.v [])) e w4) := setIn_imp (h4.mono HB3.out) (fun o ho => by rw [HK.out]; exact set_ne HG.out [] HQ3.out ho) (by omega)
   obtain ⟨A4, n4, cc4, out4, rfl, q1, q2, q3, q4, q5, q6, q7⟩ := HS.out
   clear h4
   go_wp2
   go_ret
   exact HS.out
  ·have hks : x.kind = 7 := hk
   rw [hks] at c0
   have HK := Lib.hid hks
   clear hk hks
   go_upto_region 17 with (fail)
   have HBd : Hid (Below w.heap.size w wc.drew) := HB.out.drew
   have HRd : Hid (RAt wc.drew w.heap.size x) := HR.out
   have H5d : Hid (At6B wc.drew p5 (.int .i64 1) (.int .u64 (x.v.a : Int)) (.int .u64 (x.v.b : Int)) (.int .u64 (x.v.c : Int)) (.slice x.A x.v.pre.length x.c) (.slice none 0 0)) := H5.out
   clear HB HR HL HH H5 H6 c0 c1 c2 c3 c4 c5 c6
   refine wp_region_held_drew (S := fun w' => RAt w' w.heap.size x ∧ At6B w' p5 (.int .i64 1) (.int .u64 (x.v.a : Int)) (.int .u64 (x.v.b : Int)) (.int .u64 (x.v.c : Int)) (.slice x.A x.v.pre.length x.c) (.slice none 0 0)) (by kernel_rfl) ⟨HRd.out, H5d.out⟩ (fun hHeld => ?_)
   refine tk 0 rfl (.agg #[.int .i64 1, .int .u64 (x.v.a : Int), .int .u64 (x.v.b : Int), .int .u64 (x.v.c : Int), .slice x.A x.v.pre.length x.c, .slice none 0 0]) ?_ fun w' hS' => by obtain ⟨_, _, a0, a1, a2, a3, a4, a5⟩ := hS'.2; go_simp
   refine tk 1 rfl (.pointer (some ⟨w.heap.size, 1, none⟩)) ?_
   refine tk 2 rfl (.agg #[.int .u64 (x.v.a : Int), .int .u64 (x.v.b : Int), .int .u64 (x.v.c : Int), .slice x.A x.v.pre.length x.c, .slice x.B x.v.build.length x.d]) ?_ fun w' hS' => by obtain ⟨y1, y2, c0, c1, c2, c3, c4, c5, c6⟩ := hS'.1; go_simp
   refine cl 3 rfl fun K hK => ?_
   go_simp
   refine (caret_any x.v x.A x.c x.B x.d _).mono ?_
   rintro e wm1 ⟨A9, c9, rfl, hr9, hb9, hb⟩
   have HB1 := Lib.hid (HBd.out.trans (hb.mono HBd.out.size))
   have HR1 := Lib.hid (HRd.out.kept hb HRd.out.1)
   have H51 := Lib.hid (H5d.out.kept hb H5d.out.1)
   have HS9 := Lib.hid hr9
   have HZ9 := Lib.hid hb9
   clear hr9 hb9
   clear hb hHeld
   refine hK.out _ _ ⟨HR1.out, H51.out⟩ (fun hHeld => ?_)
   clear hK K
   try simp only [Act.put, p1, p2, p3]
   refine tk 4 rfl (.agg #[.int .u64 ((verOf (caretV x.v)).a : Int), .int .u64 ((verOf (caretV x.v)).b : Int), .int .u64 ((verOf (caretV x.v)).c : Int), .slice A9 (verOf (caretV x.v)).pre.length c9, .slice none (verOf (caretV x.v)).build.length 0]) ?_
   refine tk 5 rfl (.bool (caretV x.v).isSome) ?_
   refine cl 6 rfl fun K hK => ?_
   go_simp
   refine (nend_any (caretV x.v) A9 c9 _ HS9.out (end_fit _ _ _ _) HZ9.out).mono ?_
   rintro e wm2 ⟨z, rfl, hzc, hzl, hb⟩
   have HB2 := Lib.hid (HB1.out.trans (hb.mono HB1.out.size))
   have HR2 := Lib.hid (HR1.out.kept hb HR1.out.1)
   have H52 := Lib.hid (H51.out.kept hb H51.out.1)
   have HZC := Lib.hid hzc
   have HZL := Lib.hid hzl
   clear hzc hzl
   clear hb hHeld
   refine hK.out _ _ ⟨HR2.out, H52.out⟩ (fun hHeld => ?_)
   clear hK K
   try simp only [Act.put, p1, p2, p3]
   refine cl 7 rfl fun K hK => ?_
   go_simp
   refine (between_any ⟨1, bare x.v, x.A, x.c, none, 0⟩ z _ ⟨HRow.out.kept HB2.out, SRow.none_ _ _, HF.out, Fit.nil⟩ HZL.out).mono ?_
   rintro e wm3 ⟨A3, n3, cc3, out, rfl, q1, q2, q3, q4, q5, q6, hb⟩
   have HR3 := Lib.hid (HR2.out.kept hb HR2.out.1)
   have H53 := Lib.hid (H52.out.kept hb H52.out.1)
   have HB3 := Lib.hid (HB2.out.trans (hb.mono HB2.out.size))
   rw [show (RCut.mk 1 (bare x.v) x.A x.c none 0).cut = loOf 7 x.v from rfl, show z.cut = hiOf 7 x.v from HZC.out] at q3
   have HQ : Hid (SetIn w 2 (SetOf (.mk x.kind x.v [])) (.returned (.slice A3 n3 cc3)) wm3) := ⟨A3, n3, cc3, out, rfl, q1, Nat.le_trans q2 (by omega), by rw [HK.out]; exact set_span (k := 7) (by omega) (by omega) (by omega) (.inr HG.out) [] q3, fun s hs => (q4 s hs).mono HB2.out.size, q5, q6, HB3.out⟩
   clear q1 q2 q3 q4 q5 q6
   clear hb hHeld
   refine hK.out _ _ ⟨HR3.out, H53.out⟩ (fun hHeld => ?_)
   clear hK K
   try simp only [Act.put, p1, p2, p3]
   refine tk 8 rfl (.slice A3 n3 cc3) ?_
   refine wpAnyH_done (by kernel_rfl) ?_ _
   go_wp2
   go_ret
   exact HQ.out
  ·have hks : x.kind = 8 := hk
   rw [hks] at c0
   have HK := Lib.hid hks
   clear hk hks
   go_upto_region 19 with (fail)
   have HBd : Hid (Below w.heap.size w wc.drew) := HB.out.drew
   have HRd : Hid (RAt wc.drew w.heap.size x) := HR.out
   have H5d : Hid (At6B wc.drew p5 (.int .i64 1) (.int .u64 (x.v.a : Int)) (.int .u64 (x.v.b : Int)) (.int .u64 (x.v.c : Int)) (.slice x.A x.v.pre.length x.c) (.slice none 0 0)) := H5.out
   clear HB HR HL HH H5 H6 c0 c1 c2 c3 c4 c5 c6
   refine wp_region_held_drew (S := fun w' => RAt w' w.heap.size x ∧ At6B w' p5 (.int .i64 1) (.int .u64 (x.v.a : Int)) (.int .u64 (x.v.b : Int)) (.int .u64 (x.v.c : Int)) (.slice x.A x.v.pre.length x.c) (.slice none 0 0)) (by kernel_rfl) ⟨HRd.out, H5d.out⟩ (fun hHeld => ?_)
   refine tk 0 rfl (.agg #[.int .i64 1, .int .u64 (x.v.a : Int), .int .u64 (x.v.b : Int), .int .u64 (x.v.c : Int), .slice x.A x.v.pre.length x.c, .slice none 0 0]) ?_ fun w' hS' => by obtain ⟨_, _, a0, a1, a2, a3, a4, a5⟩ := hS'.2; go_simp
   refine tk 1 rfl (.pointer (some ⟨w.heap.size, 1, none⟩)) ?_
   refine tk 2 rfl (.agg #[.int .u64 (x.v.a : Int), .int .u64 (x.v.b : Int), .int .u64 (x.v.c : Int), .slice x.A x.v.pre.length x.c, .slice x.B x.v.build.length x.d]) ?_ fun w' hS' => by obtain ⟨y1, y2, c0, c1, c2, c3, c4, c5, c6⟩ := hS'.1; go_simp
   refine cl 3 rfl fun K hK => ?_
   go_simp
   refine (tilde_any x.v x.A x.c x.B x.d _).mono ?_
   rintro e wm1 ⟨A9, c9, rfl, hr9, hb9, hb⟩
   have HB1 := Lib.hid (HBd.out.trans (hb.mono HBd.out.size))
   have HR1 := Lib.hid (HRd.out.kept hb HRd.out.1)
   have H51 := Lib.hid (H5d.out.kept hb H5d.out.1)
   have HS9 := Lib.hid hr9
   have HZ9 := Lib.hid hb9
   clear hr9 hb9
   clear hb hHeld
   refine hK.out _ _ ⟨HR1.out, H51.out⟩ (fun hHeld => ?_)
   clear hK K
   try simp only [Act.put, p1, p2, p3]
   refine tk 4 rfl (.agg #[.int .u64 ((verOf (tildeV x.v)).a : Int), .int .u64 ((verOf (tildeV x.v)).b : Int), .int .u64 ((verOf (tildeV x.v)).c : Int), .slice A9 (verOf (tildeV x.v)).pre.length c9, .slice none (verOf (tildeV x.v)).build.length 0]) ?_
   refine tk 5 rfl (.bool (tildeV x.v).isSome) ?_
   refine cl 6 rfl fun K hK => ?_
   go_simp
   refine (nend_any (tildeV x.v) A9 c9 _ HS9.out (end_fit _ _ _ _) HZ9.out).mono ?_
   rintro e wm2 ⟨z, rfl, hzc, hzl, hb⟩
   have HB2 := Lib.hid (HB1.out.trans (hb.mono HB1.out.size))
   have HR2 := Lib.hid (HR1.out.kept hb HR1.out.1)
   have H52 := Lib.hid (H51.out.kept hb H51.out.1)
   have HZC := Lib.hid hzc
   have HZL := Lib.hid hzl
   clear hzc hzl
   clear hb hHeld
   refine hK.out _ _ ⟨HR2.out, H52.out⟩ (fun hHeld => ?_)
   clear hK K
   try simp only [Act.put, p1, p2, p3]
   refine cl 7 rfl fun K hK => ?_
   go_simp
   refine (between_any ⟨1, bare x.v, x.A, x.c, none, 0⟩ z _ ⟨HRow.out.kept HB2.out, SRow.none_ _ _, HF.out, Fit.nil⟩ HZL.out).mono ?_
   rintro e wm3 ⟨A3, n3, cc3, out, rfl, q1, q2, q3, q4, q5, q6, hb⟩
   have HR3 := Lib.hid (HR2.out.kept hb HR2.out.1)
   have H53 := Lib.hid (H52.out.kept hb H52.out.1)
   have HB3 := Lib.hid (HB2.out.trans (hb.mono HB2.out.size))
   rw [show (RCut.mk 1 (bare x.v) x.A x.c none 0).cut = loOf 8 x.v from rfl, show z.cut = hiOf 8 x.v from HZC.out] at q3
   have HQ : Hid (SetIn w 2 (SetOf (.mk x.kind x.v [])) (.returned (.slice A3 n3 cc3)) wm3) := ⟨A3, n3, cc3, out, rfl, q1, Nat.le_trans q2 (by omega), by rw [HK.out]; exact set_span (k := 8) (by omega) (by omega) (by omega) (.inr HG.out) [] q3, fun s hs => (q4 s hs).mono HB2.out.size, q5, q6, HB3.out⟩
   clear q1 q2 q3 q4 q5 q6
   clear hb hHeld
   refine hK.out _ _ ⟨HR3.out, H53.out⟩ (fun hHeld => ?_)
   clear hK K
   try simp only [Act.put, p1, p2, p3]
   refine tk 8 rfl (.slice A3 n3 cc3) ?_
   refine wpAnyH_done (by kernel_rfl) ?_ _
   go_wp2
   go_ret
   exact HQ.out
  ·have hks : x.kind = 0 := hk
   rw [hks] at c0
   have HK := Lib.hid hks
   clear hk hks
   obtain ⟨_, _, a0, a1, a2, a3, a4, a5⟩ := HL.out
   obtain ⟨_, _, b0, b1, b2, b3, b4, b5⟩ := HH.out
   go_wp2_with fail
   refine (between_any rlow rhigh _ (Span.Lies.low _) (Span.Lies.high _)).mono ?_
   intro e w3 h3
   have HS : Hid (SetIn w 2 (SetOf (.mk x.kind x.v [])) e w3) := setIn_imp (h3.mono HB.out) (fun o ho => by rw [HK.out]; exact set_span (k := 0) (by omega) (by omega) (by omega) (.inl rfl) [] ho) (by omega)
   obtain ⟨A3, n3, cc3, out, rfl, q1, q2, q3, q4, q5, q6, q7⟩ := HS.out
   clear h3
   go_wp2
   go_ret
   exact HS.out
end Go.Proofs.YtgfbflnhjpbceaaGreatDoor.Nrm
