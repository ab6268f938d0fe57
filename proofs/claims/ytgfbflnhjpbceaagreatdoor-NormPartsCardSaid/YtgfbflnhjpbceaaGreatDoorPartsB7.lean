/-
  norm.end of caret's and tilde's end; the set of a version's range (norm.byVersion). Conditions: as each states. (Made by wip/gen_nmver.py.)
  The spans of some ranges' sets, one set's behind the other's (norm.gathered), at each function that it is called with. Conditions: as each states. (Made by wip/gen_nmset.py.)
-/
import Derived.Test.YtgfbflnhjpbceaaGreatDoorPartsB6
import Derived.Deep.CutBlock
import Derived.Deep.DeepCutAuto
import Derived.Deep.RegionHeld3
namespace Go.Proofs.YtgfbflnhjpbceaaGreatDoor.Nrm
open Go.RowKit Num Ident Semver Prec Span
open Range (Rng noRng goodR goodL fits RV RAt)
theorem six_ne {W : World} {b b' : Nat} {u0 u1 u2 u3 u4 u5 : Value} (h : At6B W b u0 u1 u2 u3 u4 u5) (hb : b ≠ b') (v0 v1 v2 v3 v4 v5 : Value) : At6B (Span.set6 W b' v0 v1 v2 v3 v4 v5) b u0 u1 u2 u3 u4 u5 :=
  (((((h.beside hb v0).beside hb v1).beside hb v2).beside hb v3).beside hb v4).beside hb v5
theorem setIn_imp {w : World} {k k' : Nat} {P Q : List Sp → Prop} {e : Ending} {w' : World} (h : SetIn w k P e w') (hPQ : ∀ o, P o → Q o) (hk : k ≤ k') : SetIn w k' Q e w' := by
  obtain ⟨A, n, c, out, h1, h2, h3, h4, h5⟩ := h
  exact ⟨A, n, c, out, h1, h2, Nat.le_trans h3 hk, hPQ _ h4, h5⟩
theorem end_fit (x y z i : Nat) : Fit (verOf (endV x y z i)).pre := by
  have key : ∀ a b c, Fit (verOf (some (firstV a b c))).pre := fun a b c => Fit.zero
  unfold endV
  split
  · split
    · exact Fit.nil
    · exact key _ _ _
  · split
    · split
      · exact Fit.nil
      · exact key _ _ _
    · split
      · exact Fit.nil
      · exact key _ _ _
theorem nend_any (o : Option Ver) (A : Option Addr) (c : Nat) (w : World) (hr : SRow w A (verOf o).pre.length (verOf o).pre) (hf : Fit (verOf o).pre) (hb : (verOf o).build = []) :
    Calls Tryz.prog 98 #[.agg #[.int .u64 ((verOf o).a : Int), .int .u64 ((verOf o).b : Int), .int .u64 ((verOf o).c : Int), .slice A (verOf o).pre.length c, .slice none (verOf o).build.length 0], .bool o.isSome] w fun e w' =>
      ∃ z : RCut, e = .returned (.agg #[.int .i64 z.kind, .int .u64 (z.v.a : Int), .int .u64 (z.v.b : Int), .int .u64 (z.v.c : Int), .slice z.A z.v.pre.length z.c, .slice z.B z.v.build.length z.d]) ∧ z.cut = endCut o ∧ Span.Lies w' z ∧ Below w.heap.size w w' := by
  cases o with
  | none =>
    exact (nend_no noVer A c none 0 w).mono fun e w' ⟨h1, h2⟩ => ⟨rhigh, h1, rfl, Span.Lies.high _, h2⟩
  | some v =>
    refine (nend_yes v A c none 0 w).mono fun e w' ⟨h1, h2⟩ => ⟨⟨1, bare v, A, c, none, 0⟩, h1, ?_, ⟨hr.kept h2, SRow.none_ _ _, hf, Fit.nil⟩, h2⟩
    show Cut.mk 1 (bare v) = ⟨1, v⟩
    have e : bare v = v := by unfold bare; rw [← show v.build = [] from hb]
    rw [e]
set_option maxRecDepth 100000 in
set_option maxHeartbeats 6400000 in
theorem byVer_any (x : RV) (w : World) (hr : SRow w x.A x.v.pre.length x.v.pre) (hf : Fit x.v.pre) (hk : x.kind = 0 ∨ (1 ≤ x.kind ∧ x.kind ≤ 8 ∧ goodV x.v = true)) :
    Calls Tryz.prog 61 #[x.agg] w (SetIn w 2 (SetOf (.mk x.kind x.v []))) := by
  have HRow := Lib.hid hr
  have HF : Hid (Fit x.v.pre) := hf
  have HG : Hid (x.kind = 0 ∨ goodV x.v = true) := hk.elim .inl fun h => .inr h.2.2
  have HB : Hid (Below w.heap.size w (((w.alloc (.cells #[.int .i64 x.kind, .int .u64 (x.v.a : Int), .int .u64 (x.v.b : Int), .int .u64 (x.v.c : Int), .slice x.A x.v.pre.length x.c, .slice x.B x.v.build.length x.d, .slice x.L x.n x.e] 28)).alloc (.cells #[.int .i64 0, .int .u64 0, .int .u64 0, .int .u64 0, .slice none 0 0, .slice none 0 0] 41)).alloc (.cells #[.int .i64 3, .int .u64 0, .int .u64 0, .int .u64 0, .slice none 0 0, .slice none 0 0] 41))) := (((Below.refl _ _).alloc (Nat.le_refl _) _).alloc (by simp) _).alloc (by simp; omega) _
  have HR : Hid (RAt (((w.alloc (.cells #[.int .i64 x.kind, .int .u64 (x.v.a : Int), .int .u64 (x.v.b : Int), .int .u64 (x.v.c : Int), .slice x.A x.v.pre.length x.c, .slice x.B x.v.build.length x.d, .slice x.L x.n x.e] 28)).alloc (.cells #[.int .i64 0, .int .u64 0, .int .u64 0, .int .u64 0, .slice none 0 0, .slice none 0 0] 41)).alloc (.cells #[.int .i64 3, .int .u64 0, .int .u64 0, .int .u64 0, .slice none 0 0, .slice none 0 0] 41)) w.heap.size x) := by
    have h := (RAt.new w 28 x).kept ((Below.refl _ _).alloc (Nat.le_refl _) (.cells #[.int .i64 0, .int .u64 0, .int .u64 0, .int .u64 0, .slice none 0 0, .slice none 0 0] 41)) (by simp)
    exact h.kept ((Below.refl _ _).alloc (Nat.le_refl _) (.cells #[.int .i64 3, .int .u64 0, .int .u64 0, .int .u64 0, .slice none 0 0, .slice none 0 0] 41)) (by simp; omega)
  have HL : Hid (At6B (((w.alloc (.cells #[.int .i64 x.kind, .int .u64 (x.v.a : Int), .int .u64 (x.v.b : Int), .int .u64 (x.v.c : Int), .slice x.A x.v.pre.length x.c, .slice x.B x.v.build.length x.d, .slice x.L x.n x.e] 28)).alloc (.cells #[.int .i64 0, .int .u64 0, .int .u64 0, .int .u64 0, .slice none 0 0, .slice none 0 0] 41)).alloc (.cells #[.int .i64 3, .int .u64 0, .int .u64 0, .int .u64 0, .slice none 0 0, .slice none 0 0] 41)) (w.heap.size + 1) (.int .i64 0) (.int .u64 0) (.int .u64 0) (.int .u64 0) (.slice none 0 0) (.slice none 0 0)) := by
    have h := (At6B.new (w.alloc (.cells #[.int .i64 x.kind, .int .u64 (x.v.a : Int), .int .u64 (x.v.b : Int), .int .u64 (x.v.c : Int), .slice x.A x.v.pre.length x.c, .slice x.B x.v.build.length x.d, .slice x.L x.n x.e] 28)) 41 (.int .i64 0) (.int .u64 0) (.int .u64 0) (.int .u64 0) (.slice none 0 0) (.slice none 0 0)).kept ((Below.refl _ _).alloc (Nat.le_refl _) (.cells #[.int .i64 3, .int .u64 0, .int .u64 0, .int .u64 0, .slice none 0 0, .slice none 0 0] 41)) (by simp)
    rw [size_alloc] at h; exact h
  have HH : Hid (At6B (((w.alloc (.cells #[.int .i64 x.kind, .int .u64 (x.v.a : Int), .int .u64 (x.v.b : Int), .int .u64 (x.v.c : Int), .slice x.A x.v.pre.length x.c, .slice x.B x.v.build.length x.d, .slice x.L x.n x.e] 28)).alloc (.cells #[.int .i64 0, .int .u64 0, .int .u64 0, .int .u64 0, .slice none 0 0, .slice none 0 0] 41)).alloc (.cells #[.int .i64 3, .int .u64 0, .int .u64 0, .int .u64 0, .slice none 0 0, .slice none 0 0] 41)) (w.heap.size + 1 + 1) (.int .i64 3) (.int .u64 0) (.int .u64 0) (.int .u64 0) (.slice none 0 0) (.slice none 0 0)) := by
    have h := At6B.new ((w.alloc (.cells #[.int .i64 x.kind, .int .u64 (x.v.a : Int), .int .u64 (x.v.b : Int), .int .u64 (x.v.c : Int), .slice x.A x.v.pre.length x.c, .slice x.B x.v.build.length x.d, .slice x.L x.n x.e] 28)).alloc (.cells #[.int .i64 0, .int .u64 0, .int .u64 0, .int .u64 0, .slice none 0 0, .slice none 0 0] 41)) 41 (.int .i64 3) (.int .u64 0) (.int .u64 0) (.int .u64 0) (.slice none 0 0) (.slice none 0 0)
    rw [size_alloc, size_alloc] at h; exact h
  clear hr hf
  unfold RV.agg
  go_enter Tryz.func61, Tryz.ntmps61
  go_upto_region 2 with (fail)
  go_cut [5, 6] (fun v5 v6 wx => ∃ p5 p6, v5 = .pointer (some ⟨p5, 0, none⟩) ∧ v6 = .pointer (some ⟨p6, 0, none⟩) ∧ At6B wx p5 (.int .i64 1) (.int .u64 (x.v.a : Int)) (.int .u64 (x.v.b : Int)) (.int .u64 (x.v.c : Int)) (.slice x.A x.v.pre.length x.c) (.slice none 0 0) ∧ At6B wx p6 (.int .i64 2) (.int .u64 (x.v.a : Int)) (.int .u64 (x.v.b : Int)) (.int .u64 (x.v.c : Int)) (.slice x.A x.v.pre.length x.c) (.slice none 0 0) ∧ RAt wx w.heap.size x ∧ At6B wx (w.heap.size + 1) (.int .i64 0) (.int .u64 0) (.int .u64 0) (.int .u64 0) (.slice none 0 0) (.slice none 0 0) ∧ At6B wx (w.heap.size + 1 + 1) (.int .i64 3) (.int .u64 0) (.int .u64 0) (.int .u64 0) (.slice none 0 0) (.slice none 0 0) ∧ Below w.heap.size w wx)
  case first =>
    generalize (((w.alloc (.cells #[.int .i64 x.kind, .int .u64 (x.v.a : Int), .int .u64 (x.v.b : Int), .int .u64 (x.v.c : Int), .slice x.A x.v.pre.length x.c, .slice x.B x.v.build.length x.d, .slice x.L x.n x.e] 28)).alloc (.cells #[.int .i64 0, .int .u64 0, .int .u64 0, .int .u64 0, .slice none 0 0, .slice none 0 0] 41)).alloc (.cells #[.int .i64 3, .int .u64 0, .int .u64 0, .int .u64 0, .slice none 0 0, .slice none 0 0] 41)) = W0 at HB HR HL HH ⊢
    replace HB : Hid (Below w.heap.size w W0.drew) := HB.out.drew
    replace HR : Hid (RAt W0.drew w.heap.size x) := HR.out
    replace HL : Hid (At6B W0.drew (w.heap.size + 1) (.int .i64 0) (.int .u64 0) (.int .u64 0) (.int .u64 0) (.slice none 0 0) (.slice none 0 0)) := HL.out
    replace HH : Hid (At6B W0.drew (w.heap.size + 1 + 1) (.int .i64 3) (.int .u64 0) (.int .u64 0) (.int .u64 0) (.slice none 0 0) (.slice none 0 0)) := HH.out
    refine wp_region_held_drew (S := fun w' => RAt w' w.heap.size x) (by kernel_rfl) HR.out (fun hHeld => ?_)
    generalize W0.drew = W1 at HB HR HL HH hHeld ⊢
    refine wpAnyH_take (i := 0) (oi := { dst := some 9, op := Op.fieldAddr 28 (Operand.tmp 1) 1, type := 0, pos := _, after := _, guard := none }) (v := .pointer (some ⟨w.heap.size, 1, none⟩)) rfl (by kernel_rfl) (by kernel_rfl) (by kernel_rfl) (fun _ _ _ h => h) (Or.inl ⟨by rfl, fun w' hS' => by go_simp⟩) (by assumption) ?_
    simp only [Act.put, List.setIfInBounds_toArray, List.set_cons_zero, List.set_cons_succ]
    refine wpAnyH_take (i := 1) (oi := { dst := some 10, op := Op.load 25 (Operand.tmp 9), type := 25, pos := _, after := _, guard := none }) (v := .agg #[.int .u64 (x.v.a : Int), .int .u64 (x.v.b : Int), .int .u64 (x.v.c : Int), .slice x.A x.v.pre.length x.c, .slice x.B x.v.build.length x.d]) rfl (by kernel_rfl) (by kernel_rfl) (by kernel_rfl) (fun _ _ _ h => h) (Or.inl ⟨by rfl, fun w' hS' => by obtain ⟨y1, y2, c0, c1, c2, c3, c4, c5, c6⟩ := hS'; go_simp⟩) (by assumption) ?_
    simp only [Act.put, List.setIfInBounds_toArray, List.set_cons_zero, List.set_cons_succ]
    refine wpAnyH_take (i := 3) (oi := { dst := some 12, op := Op.fieldAddr 28 (Operand.tmp 1) 1, type := 0, pos := _, after := _, guard := none }) (v := .pointer (some ⟨w.heap.size, 1, none⟩)) rfl (by kernel_rfl) (by kernel_rfl) (by kernel_rfl) (fun _ _ _ h => h) (Or.inl ⟨by rfl, fun w' hS' => by go_simp⟩) (by assumption) ?_
    simp only [Act.put, List.setIfInBounds_toArray, List.set_cons_zero, List.set_cons_succ]
    refine wpAnyH_take (i := 4) (oi := { dst := some 13, op := Op.load 25 (Operand.tmp 12), type := 25, pos := _, after := _, guard := none }) (v := .agg #[.int .u64 (x.v.a : Int), .int .u64 (x.v.b : Int), .int .u64 (x.v.c : Int), .slice x.A x.v.pre.length x.c, .slice x.B x.v.build.length x.d]) rfl (by kernel_rfl) (by kernel_rfl) (by kernel_rfl) (fun _ _ _ h => h) (Or.inl ⟨by rfl, fun w' hS' => by obtain ⟨y1, y2, c0, c1, c2, c3, c4, c5, c6⟩ := hS'; go_simp⟩) (by assumption) ?_
    simp only [Act.put, List.setIfInBounds_toArray, List.set_cons_zero, List.set_cons_succ]
    refine wpAnyH_ready (rs := [2, 6, 7]) (by kernel_rfl) (by simp) ?_
    refine AllReadyH.cons (o := { dst := some 11, op := Op.call { callee := Callee.value (Operand.func 96), args := #[Operand.const (Value.int IntKind.i64 1), Operand.tmp 10], argTypes := #[3, 25] }, type := 41, pos := _, after := _, guard := none }) rfl (fun K hK => ?_) (AllReadyH.cons (o := { dst := some 5, op := Op.alloc 41, type := 0, pos := _, after := _, guard := none }) rfl (fun K hK => ?_) (AllReadyH.cons (o := { dst := some 6, op := Op.alloc 41, type := 0, pos := _, after := _, guard := none }) rfl (fun K hK => ?_) AllReadyH.nil))
    · go_simp
      refine (ncut_any 1 x.v x.A x.c x.B x.d _).mono ?_
      rintro e wq1 ⟨rfl, hb⟩
      replace HB : Hid (Below w.heap.size w wq1) := HB.out.trans (hb.mono HB.out.size)
      replace HR := Lib.hid (HR.out.kept hb HR.out.1)
      replace HL := Lib.hid (HL.out.kept hb HL.out.1)
      replace HH := Lib.hid (HH.out.kept hb HH.out.1)
      clear hb hHeld
      refine hK.out _ _ HR.out (fun hHeld => ?_)
      clear hK K
      try simp only [Act.put, List.setIfInBounds_toArray, List.set_cons_zero, List.set_cons_succ]
      refine wpAnyH_ready (rs := [5, 6, 7]) (by kernel_rfl) (by simp) ?_
      refine AllReadyH.cons (o := { dst := some 14, op := Op.call { callee := Callee.value (Operand.func 96), args := #[Operand.const (Value.int IntKind.i64 2), Operand.tmp 13], argTypes := #[3, 25] }, type := 41, pos := _, after := _, guard := none }) rfl (fun K hK => ?_) (AllReadyH.cons (o := { dst := some 5, op := Op.alloc 41, type := 0, pos := _, after := _, guard := none }) rfl (fun K hK => ?_) (AllReadyH.cons (o := { dst := some 6, op := Op.alloc 41, type := 0, pos := _, after := _, guard := none }) rfl (fun K hK => ?_) AllReadyH.nil))
      · go_simp
        refine (ncut_any 2 x.v x.A x.c x.B x.d _).mono ?_
        rintro e wq2 ⟨rfl, hb⟩
        replace HB : Hid (Below w.heap.size w wq2) := HB.out.trans (hb.mono HB.out.size)
        replace HR := Lib.hid (HR.out.kept hb HR.out.1)
        replace HL := Lib.hid (HL.out.kept hb HL.out.1)
        replace HH := Lib.hid (HH.out.kept hb HH.out.1)
        clear hb hHeld
        refine hK.out _ _ HR.out (fun hHeld => ?_)
        clear hK K
        try simp only [Act.put, List.setIfInBounds_toArray, List.set_cons_zero, List.set_cons_succ]
        refine wpAnyH_ready (rs := [6, 7]) (by kernel_rfl) (by simp) ?_
        refine AllReadyH.cons (o := { dst := some 5, op := Op.alloc 41, type := 0, pos := _, after := _, guard := none }) rfl (fun K hK => ?_) (AllReadyH.cons (o := { dst := some 6, op := Op.alloc 41, type := 0, pos := _, after := _, guard := none }) rfl (fun K hK => ?_) AllReadyH.nil)
        · go_simp
          have hb : Below wq2.heap.size wq2 (wq2.alloc (.cells #[.int .i64 0, .int .u64 0, .int .u64 0, .int .u64 0, .slice none 0 0, .slice none 0 0] 41)) := (Below.refl _ _).alloc (Nat.le_refl _) _
          have hp5 : w.heap.size + 2 < wq2.heap.size := HH.out.1
          replace HB : Hid (Below w.heap.size w (wq2.alloc (.cells #[.int .i64 0, .int .u64 0, .int .u64 0, .int .u64 0, .slice none 0 0, .slice none 0 0] 41))) := HB.out.trans (hb.mono HB.out.size)
          replace HR := Lib.hid (HR.out.kept hb HR.out.1)
          replace HL := Lib.hid (HL.out.kept hb HL.out.1)
          replace HH := Lib.hid (HH.out.kept hb HH.out.1)
          have H5 : Hid (At6B (wq2.alloc (.cells #[.int .i64 0, .int .u64 0, .int .u64 0, .int .u64 0, .slice none 0 0, .slice none 0 0] 41)) wq2.heap.size (.int .i64 0) (.int .u64 0) (.int .u64 0) (.int .u64 0) (.slice none 0 0) (.slice none 0 0)) := At6B.new _ _ _ _ _ _ _ _
          clear hb hHeld
          generalize (wq2.alloc (.cells #[.int .i64 0, .int .u64 0, .int .u64 0, .int .u64 0, .slice none 0 0, .slice none 0 0] 41)) = wq3 at HB HR HL HH H5 ⊢
          refine hK.out _ _ HR.out (fun hHeld => ?_)
          clear hK K
          try simp only [Act.put, List.setIfInBounds_toArray, List.set_cons_zero, List.set_cons_succ]
          refine wpAnyH_ready (rs := [7]) (by kernel_rfl) (by simp) ?_
          refine AllReadyH.cons (o := { dst := some 6, op := Op.alloc 41, type := 0, pos := _, after := _, guard := none }) rfl (fun K hK => ?_) AllReadyH.nil
          go_simp
          have hb : Below wq3.heap.size wq3 (wq3.alloc (.cells #[.int .i64 0, .int .u64 0, .int .u64 0, .int .u64 0, .slice none 0 0, .slice none 0 0] 41)) := (Below.refl _ _).alloc (Nat.le_refl _) _
          have hne : wq2.heap.size ≠ wq3.heap.size := Nat.ne_of_lt H5.out.1
          have hp6 : w.heap.size + 2 < wq3.heap.size := HH.out.1
          replace HB : Hid (Below w.heap.size w (wq3.alloc (.cells #[.int .i64 0, .int .u64 0, .int .u64 0, .int .u64 0, .slice none 0 0, .slice none 0 0] 41))) := HB.out.trans (hb.mono HB.out.size)
          replace HR := Lib.hid (HR.out.kept hb HR.out.1)
          replace HL := Lib.hid (HL.out.kept hb HL.out.1)
          replace HH := Lib.hid (HH.out.kept hb HH.out.1)
          replace H5 := Lib.hid (H5.out.kept hb H5.out.1)
          have H6 : Hid (At6B (wq3.alloc (.cells #[.int .i64 0, .int .u64 0, .int .u64 0, .int .u64 0, .slice none 0 0, .slice none 0 0] 41)) wq3.heap.size (.int .i64 0) (.int .u64 0) (.int .u64 0) (.int .u64 0) (.slice none 0 0) (.slice none 0 0)) := At6B.new _ _ _ _ _ _ _ _
          clear hb hHeld
          generalize (wq3.alloc (.cells #[.int .i64 0, .int .u64 0, .int .u64 0, .int .u64 0, .slice none 0 0, .slice none 0 0] 41)) = wq4 at HB HR HL HH H5 H6 ⊢
          refine hK.out _ _ HR.out (fun hHeld => ?_)
          clear hK K
          try simp only [Act.put, List.setIfInBounds_toArray, List.set_cons_zero, List.set_cons_succ]
          refine wpAnyH_ready (rs := [8]) (by kernel_rfl) (by simp) ?_
          refine AllReadyH.cons (o := { dst := none, op := Op.store 41 (Operand.tmp 5) (Operand.tmp 11), type := 0, pos := _, after := _, guard := none }) rfl (fun K hK => ?_) AllReadyH.nil
          obtain ⟨z1, z2, s0, s1, s2, s3, s4, s5⟩ := H5.out
          go_simp
          have hb : Below (w.heap.size + 3) wq4 (Span.set6 wq4 (wq2.heap.size) (.int .i64 1) (.int .u64 (x.v.a : Int)) (.int .u64 (x.v.b : Int)) (.int .u64 (x.v.c : Int)) (.slice x.A x.v.pre.length x.c) (.slice none 0 0)) := below_set6 (Below.refl _ _) (by omega) (.int .i64 1) (.int .u64 (x.v.a : Int)) (.int .u64 (x.v.b : Int)) (.int .u64 (x.v.c : Int)) (.slice x.A x.v.pre.length x.c) (.slice none 0 0)
          replace HB : Hid (Below w.heap.size w (Span.set6 wq4 (wq2.heap.size) (.int .i64 1) (.int .u64 (x.v.a : Int)) (.int .u64 (x.v.b : Int)) (.int .u64 (x.v.c : Int)) (.slice x.A x.v.pre.length x.c) (.slice none 0 0))) := below_set6 HB.out (by omega) (.int .i64 1) (.int .u64 (x.v.a : Int)) (.int .u64 (x.v.b : Int)) (.int .u64 (x.v.c : Int)) (.slice x.A x.v.pre.length x.c) (.slice none 0 0)
          replace HR := Lib.hid (HR.out.kept hb (by omega))
          replace HL := Lib.hid (HL.out.kept hb (by omega))
          replace HH := Lib.hid (HH.out.kept hb (by omega))
          replace H5 := Lib.hid (H5.out.set6 (.int .i64 1) (.int .u64 (x.v.a : Int)) (.int .u64 (x.v.b : Int)) (.int .u64 (x.v.c : Int)) (.slice x.A x.v.pre.length x.c) (.slice none 0 0))
          replace H6 := Lib.hid (six_ne H6.out hne.symm (.int .i64 1) (.int .u64 (x.v.a : Int)) (.int .u64 (x.v.b : Int)) (.int .u64 (x.v.c : Int)) (.slice x.A x.v.pre.length x.c) (.slice none 0 0))
          clear hb hHeld z1 z2 s0 s1 s2 s3 s4 s5
          change K _ (Span.set6 wq4 (wq2.heap.size) (.int .i64 1) (.int .u64 (x.v.a : Int)) (.int .u64 (x.v.b : Int)) (.int .u64 (x.v.c : Int)) (.slice x.A x.v.pre.length x.c) (.slice none 0 0))
          generalize Span.set6 wq4 (wq2.heap.size) (.int .i64 1) (.int .u64 (x.v.a : Int)) (.int .u64 (x.v.b : Int)) (.int .u64 (x.v.c : Int)) (.slice x.A x.v.pre.length x.c) (.slice none 0 0) = wq5 at HB HR HL HH H5 H6 ⊢
          refine hK.out _ _ HR.out (fun hHeld => ?_)
          clear hK K
          try simp only [Act.put, List.setIfInBounds_toArray, List.set_cons_zero, List.set_cons_succ]
          refine wpAnyH_ready (rs := [9]) (by kernel_rfl) (by simp) ?_
          refine AllReadyH.cons (o := { dst := none, op := Op.store 41 (Operand.tmp 6) (Operand.tmp 14), type := 0, pos := _, after := _, guard := none }) rfl (fun K hK => ?_) AllReadyH.nil
          obtain ⟨z1, z2, s0, s1, s2, s3, s4, s5⟩ := H6.out
          go_simp
          have hb : Below (w.heap.size + 3) wq5 (Span.set6 wq5 (wq3.heap.size) (.int .i64 2) (.int .u64 (x.v.a : Int)) (.int .u64 (x.v.b : Int)) (.int .u64 (x.v.c : Int)) (.slice x.A x.v.pre.length x.c) (.slice none 0 0)) := below_set6 (Below.refl _ _) (by omega) (.int .i64 2) (.int .u64 (x.v.a : Int)) (.int .u64 (x.v.b : Int)) (.int .u64 (x.v.c : Int)) (.slice x.A x.v.pre.length x.c) (.slice none 0 0)
          replace HB : Hid (Below w.heap.size w (Span.set6 wq5 (wq3.heap.size) (.int .i64 2) (.int .u64 (x.v.a : Int)) (.int .u64 (x.v.b : Int)) (.int .u64 (x.v.c : Int)) (.slice x.A x.v.pre.length x.c) (.slice none 0 0))) := below_set6 HB.out (by omega) (.int .i64 2) (.int .u64 (x.v.a : Int)) (.int .u64 (x.v.b : Int)) (.int .u64 (x.v.c : Int)) (.slice x.A x.v.pre.length x.c) (.slice none 0 0)
          replace HR := Lib.hid (HR.out.kept hb (by omega))
          replace HL := Lib.hid (HL.out.kept hb (by omega))
          replace HH := Lib.hid (HH.out.kept hb (by omega))
          replace H6 := Lib.hid (H6.out.set6 (.int .i64 2) (.int .u64 (x.v.a : Int)) (.int .u64 (x.v.b : Int)) (.int .u64 (x.v.c : Int)) (.slice x.A x.v.pre.length x.c) (.slice none 0 0))
          replace H5 := Lib.hid (six_ne H5.out hne (.int .i64 2) (.int .u64 (x.v.a : Int)) (.int .u64 (x.v.b : Int)) (.int .u64 (x.v.c : Int)) (.slice x.A x.v.pre.length x.c) (.slice none 0 0))
          clear hb hHeld z1 z2 s0 s1 s2 s3 s4 s5
          change K _ (Span.set6 wq5 (wq3.heap.size) (.int .i64 2) (.int .u64 (x.v.a : Int)) (.int .u64 (x.v.b : Int)) (.int .u64 (x.v.c : Int)) (.slice x.A x.v.pre.length x.c) (.slice none 0 0))
          generalize Span.set6 wq5 (wq3.heap.size) (.int .i64 2) (.int .u64 (x.v.a : Int)) (.int .u64 (x.v.b : Int)) (.int .u64 (x.v.c : Int)) (.slice x.A x.v.pre.length x.c) (.slice none 0 0) = wq6 at HB HR HL HH H5 H6 ⊢
          refine hK.out _ _ HR.out (fun hHeld => ?_)
          clear hK K
          try simp only [Act.put, List.setIfInBounds_toArray, List.set_cons_zero, List.set_cons_succ]
          refine wpAnyH_done (by kernel_rfl) ?_ _
          go_wp2
          go_meet
          exact ⟨_, _, rfl, rfl, H5.out, H6.out, HR.out, HL.out, HH.out, HB.out⟩
        · go_simp
          have hb : Below wq2.heap.size wq2 (wq2.alloc (.cells #[.int .i64 0, .int .u64 0, .int .u64 0, .int .u64 0, .slice none 0 0, .slice none 0 0] 41)) := (Below.refl _ _).alloc (Nat.le_refl _) _
          have hp6 : w.heap.size + 2 < wq2.heap.size := HH.out.1
          replace HB : Hid (Below w.heap.size w (wq2.alloc (.cells #[.int .i64 0, .int .u64 0, .int .u64 0, .int .u64 0, .slice none 0 0, .slice none 0 0] 41))) := HB.out.trans (hb.mono HB.out.size)
          replace HR := Lib.hid (HR.out.kept hb HR.out.1)
          replace HL := Lib.hid (HL.out.kept hb HL.out.1)
          replace HH := Lib.hid (HH.out.kept hb HH.out.1)
          have H6 : Hid (At6B (wq2.alloc (.cells #[.int .i64 0, .int .u64 0, .int .u64 0, .int .u64 0, .slice none 0 0, .slice none 0 0] 41)) wq2.heap.size (.int .i64 0) (.int .u64 0) (.int .u64 0) (.int .u64 0) (.slice none 0 0) (.slice none 0 0)) := At6B.new _ _ _ _ _ _ _ _
          clear hb hHeld
          generalize (wq2.alloc (.cells #[.int .i64 0, .int .u64 0, .int .u64 0, .int .u64 0, .slice none 0 0, .slice none 0 0] 41)) = wq7 at HB HR HL HH H6 ⊢
          refine hK.out _ _ HR.out (fun hHeld => ?_)
          clear hK K
          try simp only [Act.put, List.setIfInBounds_toArray, List.set_cons_zero, List.set_cons_succ]
          refine wpAnyH_ready (rs := [6]) (by kernel_rfl) (by simp) ?_
          refine AllReadyH.cons (o := { dst := some 5, op := Op.alloc 41, type := 0, pos := _, after := _, guard := none }) rfl (fun K hK => ?_) AllReadyH.nil
          go_simp
          have hb : Below wq7.heap.size wq7 (wq7.alloc (.cells #[.int .i64 0, .int .u64 0, .int .u64 0, .int .u64 0, .slice none 0 0, .slice none 0 0] 41)) := (Below.refl _ _).alloc (Nat.le_refl _) _
          have hne : wq7.heap.size ≠ wq2.heap.size := Nat.ne_of_gt H6.out.1
          have hp5 : w.heap.size + 2 < wq7.heap.size := HH.out.1
          replace HB : Hid (Below w.heap.size w (wq7.alloc (.cells #[.int .i64 0, .int .u64 0, .int .u64 0, .int .u64 0, .slice none 0 0, .slice none 0 0] 41))) := HB.out.trans (hb.mono HB.out.size)
          replace HR := Lib.hid (HR.out.kept hb HR.out.1)
          replace HL := Lib.hid (HL.out.kept hb HL.out.1)
          replace HH := Lib.hid (HH.out.kept hb HH.out.1)
          replace H6 := Lib.hid (H6.out.kept hb H6.out.1)
          have H5 : Hid (At6B (wq7.alloc (.cells #[.int .i64 0, .int .u64 0, .int .u64 0, .int .u64 0, .slice none 0 0, .slice none 0 0] 41)) wq7.heap.size (.int .i64 0) (.int .u64 0) (.int .u64 0) (.int .u64 0) (.slice none 0 0) (.slice none 0 0)) := At6B.new _ _ _ _ _ _ _ _
          clear hb hHeld
          generalize (wq7.alloc (.cells #[.int .i64 0, .int .u64 0, .int .u64 0, .int .u64 0, .slice none 0 0, .slice none 0 0] 41)) = wq8 at HB HR HL HH H6 H5 ⊢
          refine hK.out _ _ HR.out (fun hHeld => ?_)
          clear hK K
          try simp only [Act.put, List.setIfInBounds_toArray, List.set_cons_zero, List.set_cons_succ]
          refine wpAnyH_ready (rs := [8]) (by kernel_rfl) (by simp) ?_
          refine AllReadyH.cons (o := { dst := none, op := Op.store 41 (Operand.tmp 5) (Operand.tmp 11), type := 0, pos := _, after := _, guard := none }) rfl (fun K hK => ?_) AllReadyH.nil
          obtain ⟨z1, z2, s0, s1, s2, s3, s4, s5⟩ := H5.out
          go_simp
          have hb : Below (w.heap.size + 3) wq8 (Span.set6 wq8 (wq7.heap.size) (.int .i64 1) (.int .u64 (x.v.a : Int)) (.int .u64 (x.v.b : Int)) (.int .u64 (x.v.c : Int)) (.slice x.A x.v.pre.length x.c) (.slice none 0 0)) := below_set6 (Below.refl _ _) (by omega) (.int .i64 1) (.int .u64 (x.v.a : Int)) (.int .u64 (x.v.b : Int)) (.int .u64 (x.v.c : Int)) (.slice x.A x.v.pre.length x.c) (.slice none 0 0)
          replace HB : Hid (Below w.heap.size w (Span.set6 wq8 (wq7.heap.size) (.int .i64 1) (.int .u64 (x.v.a : Int)) (.int .u64 (x.v.b : Int)) (.int .u64 (x.v.c : Int)) (.slice x.A x.v.pre.length x.c) (.slice none 0 0))) := below_set6 HB.out (by omega) (.int .i64 1) (.int .u64 (x.v.a : Int)) (.int .u64 (x.v.b : Int)) (.int .u64 (x.v.c : Int)) (.slice x.A x.v.pre.length x.c) (.slice none 0 0)
          replace HR := Lib.hid (HR.out.kept hb (by omega))
          replace HL := Lib.hid (HL.out.kept hb (by omega))
          replace HH := Lib.hid (HH.out.kept hb (by omega))
          replace H5 := Lib.hid (H5.out.set6 (.int .i64 1) (.int .u64 (x.v.a : Int)) (.int .u64 (x.v.b : Int)) (.int .u64 (x.v.c : Int)) (.slice x.A x.v.pre.length x.c) (.slice none 0 0))
          replace H6 := Lib.hid (six_ne H6.out hne.symm (.int .i64 1) (.int .u64 (x.v.a : Int)) (.int .u64 (x.v.b : Int)) (.int .u64 (x.v.c : Int)) (.slice x.A x.v.pre.length x.c) (.slice none 0 0))
          clear hb hHeld z1 z2 s0 s1 s2 s3 s4 s5
          change K _ (Span.set6 wq8 (wq7.heap.size) (.int .i64 1) (.int .u64 (x.v.a : Int)) (.int .u64 (x.v.b : Int)) (.int .u64 (x.v.c : Int)) (.slice x.A x.v.pre.length x.c) (.slice none 0 0))
          generalize Span.set6 wq8 (wq7.heap.size) (.int .i64 1) (.int .u64 (x.v.a : Int)) (.int .u64 (x.v.b : Int)) (.int .u64 (x.v.c : Int)) (.slice x.A x.v.pre.length x.c) (.slice none 0 0) = wq9 at HB HR HL HH H5 H6 ⊢
          refine hK.out _ _ HR.out (fun hHeld => ?_)
          clear hK K
          try simp only [Act.put, List.setIfInBounds_toArray, List.set_cons_zero, List.set_cons_succ]
          refine wpAnyH_ready (rs := [9]) (by kernel_rfl) (by simp) ?_
          refine AllReadyH.cons (o := { dst := none, op := Op.store 41 (Operand.tmp 6) (Operand.tmp 14), type := 0, pos := _, after := _, guard := none }) rfl (fun K hK => ?_) AllReadyH.nil
          obtain ⟨z1, z2, s0, s1, s2, s3, s4, s5⟩ := H6.out
          go_simp
          have hb : Below (w.heap.size + 3) wq9 (Span.set6 wq9 (wq2.heap.size) (.int .i64 2) (.int .u64 (x.v.a : Int)) (.int .u64 (x.v.b : Int)) (.int .u64 (x.v.c : Int)) (.slice x.A x.v.pre.length x.c) (.slice none 0 0)) := below_set6 (Below.refl _ _) (by omega) (.int .i64 2) (.int .u64 (x.v.a : Int)) (.int .u64 (x.v.b : Int)) (.int .u64 (x.v.c : Int)) (.slice x.A x.v.pre.length x.c) (.slice none 0 0)
          replace HB : Hid (Below w.heap.size w (Span.set6 wq9 (wq2.heap.size) (.int .i64 2) (.int .u64 (x.v.a : Int)) (.int .u64 (x.v.b : Int)) (.int .u64 (x.v.c : Int)) (.slice x.A x.v.pre.length x.c) (.slice none 0 0))) := below_set6 HB.out (by omega) (.int .i64 2) (.int .u64 (x.v.a : Int)) (.int .u64 (x.v.b : Int)) (.int .u64 (x.v.c : Int)) (.slice x.A x.v.pre.length x.c) (.slice none 0 0)
          replace HR := Lib.hid (HR.out.kept hb (by omega))
          replace HL := Lib.hid (HL.out.kept hb (by omega))
          replace HH := Lib.hid (HH.out.kept hb (by omega))
          replace H6 := Lib.hid (H6.out.set6 (.int .i64 2) (.int .u64 (x.v.a : Int)) (.int .u64 (x.v.b : Int)) (.int .u64 (x.v.c : Int)) (.slice x.A x.v.pre.length x.c) (.slice none 0 0))
          replace H5 := Lib.hid (six_ne H5.out hne (.int .i64 2) (.int .u64 (x.v.a : Int)) (.int .u64 (x.v.b : Int)) (.int .u64 (x.v.c : Int)) (.slice x.A x.v.pre.length x.c) (.slice none 0 0))
          clear hb hHeld z1 z2 s0 s1 s2 s3 s4 s5
          change K _ (Span.set6 wq9 (wq2.heap.size) (.int .i64 2) (.int .u64 (x.v.a : Int)) (.int .u64 (x.v.b : Int)) (.int .u64 (x.v.c : Int)) (.slice x.A x.v.pre.length x.c) (.slice none 0 0))
          generalize Span.set6 wq9 (wq2.heap.size) (.int .i64 2) (.int .u64 (x.v.a : Int)) (.int .u64 (x.v.b : Int)) (.int .u64 (x.v.c : Int)) (.slice x.A x.v.pre.length x.c) (.slice none 0 0) = wq10 at HB HR HL HH H5 H6 ⊢
          refine hK.out _ _ HR.out (fun hHeld => ?_)
          clear hK K
          try simp only [Act.put, List.setIfInBounds_toArray, List.set_cons_zero, List.set_cons_succ]
          refine wpAnyH_done (by kernel_rfl) ?_ _
          go_wp2
          go_meet
          exact ⟨_, _, rfl, rfl, H5.out, H6.out, HR.out, HL.out, HH.out, HB.out⟩
      · go_simp
        have hb : Below wq1.heap.size wq1 (wq1.alloc (.cells #[.int .i64 0, .int .u64 0, .int .u64 0, .int .u64 0, .slice none 0 0, .slice none 0 0] 41)) := (Below.refl _ _).alloc (Nat.le_refl _) _
        have hp5 : w.heap.size + 2 < wq1.heap.size := HH.out.1
        replace HB : Hid (Below w.heap.size w (wq1.alloc (.cells #[.int .i64 0, .int .u64 0, .int .u64 0, .int .u64 0, .slice none 0 0, .slice none 0 0] 41))) := HB.out.trans (hb.mono HB.out.size)
        replace HR := Lib.hid (HR.out.kept hb HR.out.1)
        replace HL := Lib.hid (HL.out.kept hb HL.out.1)
        replace HH := Lib.hid (HH.out.kept hb HH.out.1)
        have H5 : Hid (At6B (wq1.alloc (.cells #[.int .i64 0, .int .u64 0, .int .u64 0, .int .u64 0, .slice none 0 0, .slice none 0 0] 41)) wq1.heap.size (.int .i64 0) (.int .u64 0) (.int .u64 0) (.int .u64 0) (.slice none 0 0) (.slice none 0 0)) := At6B.new _ _ _ _ _ _ _ _
        clear hb hHeld
        generalize (wq1.alloc (.cells #[.int .i64 0, .int .u64 0, .int .u64 0, .int .u64 0, .slice none 0 0, .slice none 0 0] 41)) = wq11 at HB HR HL HH H5 ⊢
        refine hK.out _ _ HR.out (fun hHeld => ?_)
        clear hK K
        try simp only [Act.put, List.setIfInBounds_toArray, List.set_cons_zero, List.set_cons_succ]
        refine wpAnyH_ready (rs := [5, 7]) (by kernel_rfl) (by simp) ?_
        refine AllReadyH.cons (o := { dst := some 14, op := Op.call { callee := Callee.value (Operand.func 96), args := #[Operand.const (Value.int IntKind.i64 2), Operand.tmp 13], argTypes := #[3, 25] }, type := 41, pos := _, after := _, guard := none }) rfl (fun K hK => ?_) (AllReadyH.cons (o := { dst := some 6, op := Op.alloc 41, type := 0, pos := _, after := _, guard := none }) rfl (fun K hK => ?_) AllReadyH.nil)
        · go_simp
          refine (ncut_any 2 x.v x.A x.c x.B x.d _).mono ?_
          rintro e wq12 ⟨rfl, hb⟩
          replace HB : Hid (Below w.heap.size w wq12) := HB.out.trans (hb.mono HB.out.size)
          replace HR := Lib.hid (HR.out.kept hb HR.out.1)
          replace HL := Lib.hid (HL.out.kept hb HL.out.1)
          replace HH := Lib.hid (HH.out.kept hb HH.out.1)
          replace H5 := Lib.hid (H5.out.kept hb H5.out.1)
          clear hb hHeld
          refine hK.out _ _ HR.out (fun hHeld => ?_)
          clear hK K
          try simp only [Act.put, List.setIfInBounds_toArray, List.set_cons_zero, List.set_cons_succ]
          refine wpAnyH_ready (rs := [7]) (by kernel_rfl) (by simp) ?_
          refine AllReadyH.cons (o := { dst := some 6, op := Op.alloc 41, type := 0, pos := _, after := _, guard := none }) rfl (fun K hK => ?_) AllReadyH.nil
          go_simp
          have hb : Below wq12.heap.size wq12 (wq12.alloc (.cells #[.int .i64 0, .int .u64 0, .int .u64 0, .int .u64 0, .slice none 0 0, .slice none 0 0] 41)) := (Below.refl _ _).alloc (Nat.le_refl _) _
          have hne : wq1.heap.size ≠ wq12.heap.size := Nat.ne_of_lt H5.out.1
          have hp6 : w.heap.size + 2 < wq12.heap.size := HH.out.1
          replace HB : Hid (Below w.heap.size w (wq12.alloc (.cells #[.int .i64 0, .int .u64 0, .int .u64 0, .int .u64 0, .slice none 0 0, .slice none 0 0] 41))) := HB.out.trans (hb.mono HB.out.size)
          replace HR := Lib.hid (HR.out.kept hb HR.out.1)
          replace HL := Lib.hid (HL.out.kept hb HL.out.1)
          replace HH := Lib.hid (HH.out.kept hb HH.out.1)
          replace H5 := Lib.hid (H5.out.kept hb H5.out.1)
          have H6 : Hid (At6B (wq12.alloc (.cells #[.int .i64 0, .int .u64 0, .int .u64 0, .int .u64 0, .slice none 0 0, .slice none 0 0] 41)) wq12.heap.size (.int .i64 0) (.int .u64 0) (.int .u64 0) (.int .u64 0) (.slice none 0 0) (.slice none 0 0)) := At6B.new _ _ _ _ _ _ _ _
          clear hb hHeld
          generalize (wq12.alloc (.cells #[.int .i64 0, .int .u64 0, .int .u64 0, .int .u64 0, .slice none 0 0, .slice none 0 0] 41)) = wq13 at HB HR HL HH H5 H6 ⊢
          refine hK.out _ _ HR.out (fun hHeld => ?_)
          clear hK K
          try simp only [Act.put, List.setIfInBounds_toArray, List.set_cons_zero, List.set_cons_succ]
          refine wpAnyH_ready (rs := [8]) (by kernel_rfl) (by simp) ?_
          refine AllReadyH.cons (o := { dst := none, op := Op.store 41 (Operand.tmp 5) (Operand.tmp 11), type := 0, pos := _, after := _, guard := none }) rfl (fun K hK => ?_) AllReadyH.nil
          obtain ⟨z1, z2, s0, s1, s2, s3, s4, s5⟩ := H5.out
          go_simp
          have hb : Below (w.heap.size + 3) wq13 (Span.set6 wq13 (wq1.heap.size) (.int .i64 1) (.int .u64 (x.v.a : Int)) (.int .u64 (x.v.b : Int)) (.int .u64 (x.v.c : Int)) (.slice x.A x.v.pre.length x.c) (.slice none 0 0)) := below_set6 (Below.refl _ _) (by omega) (.int .i64 1) (.int .u64 (x.v.a : Int)) (.int .u64 (x.v.b : Int)) (.int .u64 (x.v.c : Int)) (.slice x.A x.v.pre.length x.c) (.slice none 0 0)
          replace HB : Hid (Below w.heap.size w (Span.set6 wq13 (wq1.heap.size) (.int .i64 1) (.int .u64 (x.v.a : Int)) (.int .u64 (x.v.b : Int)) (.int .u64 (x.v.c : Int)) (.slice x.A x.v.pre.length x.c) (.slice none 0 0))) := below_set6 HB.out (by omega) (.int .i64 1) (.int .u64 (x.v.a : Int)) (.int .u64 (x.v.b : Int)) (.int .u64 (x.v.c : Int)) (.slice x.A x.v.pre.length x.c) (.slice none 0 0)
          replace HR := Lib.hid (HR.out.kept hb (by omega))
          replace HL := Lib.hid (HL.out.kept hb (by omega))
          replace HH := Lib.hid (HH.out.kept hb (by omega))
          replace H5 := Lib.hid (H5.out.set6 (.int .i64 1) (.int .u64 (x.v.a : Int)) (.int .u64 (x.v.b : Int)) (.int .u64 (x.v.c : Int)) (.slice x.A x.v.pre.length x.c) (.slice none 0 0))
          replace H6 := Lib.hid (six_ne H6.out hne.symm (.int .i64 1) (.int .u64 (x.v.a : Int)) (.int .u64 (x.v.b : Int)) (.int .u64 (x.v.c : Int)) (.slice x.A x.v.pre.length x.c) (.slice none 0 0))
          clear hb hHeld z1 z2 s0 s1 s2 s3 s4 s5
          change K _ (Span.set6 wq13 (wq1.heap.size) (.int .i64 1) (.int .u64 (x.v.a : Int)) (.int .u64 (x.v.b : Int)) (.int .u64 (x.v.c : Int)) (.slice x.A x.v.pre.length x.c) (.slice none 0 0))
          generalize Span.set6 wq13 (wq1.heap.size) (.int .i64 1) (.int .u64 (x.v.a : Int)) (.int .u64 (x.v.b : Int)) (.int .u64 (x.v.c : Int)) (.slice x.A x.v.pre.length x.c) (.slice none 0 0) = wq14 at HB HR HL HH H5 H6 ⊢
          refine hK.out _ _ HR.out (fun hHeld => ?_)
          clear hK K
          try simp only [Act.put, List.setIfInBounds_toArray, List.set_cons_zero, List.set_cons_succ]
          refine wpAnyH_ready (rs := [9]) (by kernel_rfl) (by simp) ?_
          refine AllReadyH.cons (o := { dst := none, op := Op.store 41 (Operand.tmp 6) (Operand.tmp 14), type := 0, pos := _, after := _, guard := none }) rfl (fun K hK => ?_) AllReadyH.nil
          obtain ⟨z1, z2, s0, s1, s2, s3, s4, s5⟩ := H6.out
          go_simp
          have hb : Below (w.heap.size + 3) wq14 (Span.set6 wq14 (wq12.heap.size) (.int .i64 2) (.int .u64 (x.v.a : Int)) (.int .u64 (x.v.b : Int)) (.int .u64 (x.v.c : Int)) (.slice x.A x.v.pre.length x.c) (.slice none 0 0)) := below_set6 (Below.refl _ _) (by omega) (.int .i64 2) (.int .u64 (x.v.a : Int)) (.int .u64 (x.v.b : Int)) (.int .u64 (x.v.c : Int)) (.slice x.A x.v.pre.length x.c) (.slice none 0 0)
          replace HB : Hid (Below w.heap.size w (Span.set6 wq14 (wq12.heap.size) (.int .i64 2) (.int .u64 (x.v.a : Int)) (.int .u64 (x.v.b : Int)) (.int .u64 (x.v.c : Int)) (.slice x.A x.v.pre.length x.c) (.slice none 0 0))) := below_set6 HB.out (by omega) (.int .i64 2) (.int .u64 (x.v.a : Int)) (.int .u64 (x.v.b : Int)) (.int .u64 (x.v.c : Int)) (.slice x.A x.v.pre.length x.c) (.slice none 0 0)
          replace HR := Lib.hid (HR.out.kept hb (by omega))
          replace HL := Lib.hid (HL.out.kept hb (by omega))
          replace HH := Lib.hid (HH.out.kept hb (by omega))
          replace H6 := Lib.hid (H6.out.set6 (.int .i64 2) (.int .u64 (x.v.a : Int)) (.int .u64 (x.v.b : Int)) (.int .u64 (x.v.c : Int)) (.slice x.A x.v.pre.length x.c) (.slice none 0 0))
          replace H5 := Lib.hid (six_ne H5.out hne (.int .i64 2) (.int .u64 (x.v.a : Int)) (.int .u64 (x.v.b : Int)) (.int .u64 (x.v.c : Int)) (.slice x.A x.v.pre.length x.c) (.slice none 0 0))
          clear hb hHeld z1 z2 s0 s1 s2 s3 s4 s5
          change K _ (Span.set6 wq14 (wq12.heap.size) (.int .i64 2) (.int .u64 (x.v.a : Int)) (.int .u64 (x.v.b : Int)) (.int .u64 (x.v.c : Int)) (.slice x.A x.v.pre.length x.c) (.slice none 0 0))
          generalize Span.set6 wq14 (wq12.heap.size) (.int .i64 2) (.int .u64 (x.v.a : Int)) (.int .u64 (x.v.b : Int)) (.int .u64 (x.v.c : Int)) (.slice x.A x.v.pre.length x.c) (.slice none 0 0) = wq15 at HB HR HL HH H5 H6 ⊢
          refine hK.out _ _ HR.out (fun hHeld => ?_)
          clear hK K
          try simp only [Act.put, List.setIfInBounds_toArray, List.set_cons_zero, List.set_cons_succ]
          refine wpAnyH_done (by kernel_rfl) ?_ _
          go_wp2
          go_meet
          exact ⟨_, _, rfl, rfl, H5.out, H6.out, HR.out, HL.out, HH.out, HB.out⟩
        · go_simp
          have hb : Below wq11.heap.size wq11 (wq11.alloc (.cells #[.int .i64 0, .int .u64 0, .int .u64 0, .int .u64 0, .slice none 0 0, .slice none 0 0] 41)) := (Below.refl _ _).alloc (Nat.le_refl _) _
          have hne : wq1.heap.size ≠ wq11.heap.size := Nat.ne_of_lt H5.out.1
          have hp6 : w.heap.size + 2 < wq11.heap.size := HH.out.1
          replace HB : Hid (Below w.heap.size w (wq11.alloc (.cells #[.int .i64 0, .int .u64 0, .int .u64 0, .int .u64 0, .slice none 0 0, .slice none 0 0] 41))) := HB.out.trans (hb.mono HB.out.size)
          replace HR := Lib.hid (HR.out.kept hb HR.out.1)
          replace HL := Lib.hid (HL.out.kept hb HL.out.1)
          replace HH := Lib.hid (HH.out.kept hb HH.out.1)
          replace H5 := Lib.hid (H5.out.kept hb H5.out.1)
          have H6 : Hid (At6B (wq11.alloc (.cells #[.int .i64 0, .int .u64 0, .int .u64 0, .int .u64 0, .slice none 0 0, .slice none 0 0] 41)) wq11.heap.size (.int .i64 0) (.int .u64 0) (.int .u64 0) (.int .u64 0) (.slice none 0 0) (.slice none 0 0)) := At6B.new _ _ _ _ _ _ _ _
          clear hb hHeld
          generalize (wq11.alloc (.cells #[.int .i64 0, .int .u64 0, .int .u64 0, .int .u64 0, .slice none 0 0, .slice none 0 0] 41)) = wq16 at HB HR HL HH H5 H6 ⊢
          refine hK.out _ _ HR.out (fun hHeld => ?_)
          clear hK K
          try simp only [Act.put, List.setIfInBounds_toArray, List.set_cons_zero, List.set_cons_succ]
          refine wpAnyH_ready (rs := [5]) (by kernel_rfl) (by simp) ?_
          refine AllReadyH.cons (o := { dst := some 14, op := Op.call { callee := Callee.value (Operand.func 96), args := #[Operand.const (Value.int IntKind.i64 2), Operand.tmp 13], argTypes := #[3, 25] }, type := 41, pos := _, after := _, guard := none }) rfl (fun K hK => ?_) AllReadyH.nil
          go_simp
          refine (ncut_any 2 x.v x.A x.c x.B x.d _).mono ?_
          rintro e wq17 ⟨rfl, hb⟩
          replace HB : Hid (Below w.heap.size w wq17) := HB.out.trans (hb.mono HB.out.size)
          replace HR := Lib.hid (HR.out.kept hb HR.out.1)
          replace HL := Lib.hid (HL.out.kept hb HL.out.1)
          replace HH := Lib.hid (HH.out.kept hb HH.out.1)
          replace H5 := Lib.hid (H5.out.kept hb H5.out.1)
          replace H6 := Lib.hid (H6.out.kept hb H6.out.1)
          clear hb hHeld
          refine hK.out _ _ HR.out (fun hHeld => ?_)
          clear hK K
          try simp only [Act.put, List.setIfInBounds_toArray, List.set_cons_zero, List.set_cons_succ]
          refine wpAnyH_ready (rs := [8]) (by kernel_rfl) (by simp) ?_
          refine AllReadyH.cons (o := { dst := none, op := Op.store 41 (Operand.tmp 5) (Operand.tmp 11), type := 0, pos := _, after := _, guard := none }) rfl (fun K hK => ?_) AllReadyH.nil
          obtain ⟨z1, z2, s0, s1, s2, s3, s4, s5⟩ := H5.out
          go_simp
          have hb : Below (w.heap.size + 3) wq17 (Span.set6 wq17 (wq1.heap.size) (.int .i64 1) (.int .u64 (x.v.a : Int)) (.int .u64 (x.v.b : Int)) (.int .u64 (x.v.c : Int)) (.slice x.A x.v.pre.length x.c) (.slice none 0 0)) := below_set6 (Below.refl _ _) (by omega) (.int .i64 1) (.int .u64 (x.v.a : Int)) (.int .u64 (x.v.b : Int)) (.int .u64 (x.v.c : Int)) (.slice x.A x.v.pre.length x.c) (.slice none 0 0)
          replace HB : Hid (Below w.heap.size w (Span.set6 wq17 (wq1.heap.size) (.int .i64 1) (.int .u64 (x.v.a : Int)) (.int .u64 (x.v.b : Int)) (.int .u64 (x.v.c : Int)) (.slice x.A x.v.pre.length x.c) (.slice none 0 0))) := below_set6 HB.out (by omega) (.int .i64 1) (.int .u64 (x.v.a : Int)) (.int .u64 (x.v.b : Int)) (.int .u64 (x.v.c : Int)) (.slice x.A x.v.pre.length x.c) (.slice none 0 0)
          replace HR := Lib.hid (HR.out.kept hb (by omega))
          replace HL := Lib.hid (HL.out.kept hb (by omega))
          replace HH := Lib.hid (HH.out.kept hb (by omega))
          replace H5 := Lib.hid (H5.out.set6 (.int .i64 1) (.int .u64 (x.v.a : Int)) (.int .u64 (x.v.b : Int)) (.int .u64 (x.v.c : Int)) (.slice x.A x.v.pre.length x.c) (.slice none 0 0))
          replace H6 := Lib.hid (six_ne H6.out hne.symm (.int .i64 1) (.int .u64 (x.v.a : Int)) (.int .u64 (x.v.b : Int)) (.int .u64 (x.v.c : Int)) (.slice x.A x.v.pre.length x.c) (.slice none 0 0))
          clear hb hHeld z1 z2 s0 s1 s2 s3 s4 s5
          change K _ (Span.set6 wq17 (wq1.heap.size) (.int .i64 1) (.int .u64 (x.v.a : Int)) (.int .u64 (x.v.b : Int)) (.int .u64 (x.v.c : Int)) (.slice x.A x.v.pre.length x.c) (.slice none 0 0))
          generalize Span.set6 wq17 (wq1.heap.size) (.int .i64 1) (.int .u64 (x.v.a : Int)) (.int .u64 (x.v.b : Int)) (.int .u64 (x.v.c : Int)) (.slice x.A x.v.pre.length x.c) (.slice none 0 0) = wq18 at HB HR HL HH H5 H6 ⊢
          refine hK.out _ _ HR.out (fun hHeld => ?_)
          clear hK K
          try simp only [Act.put, List.setIfInBounds_toArray, List.set_cons_zero, List.set_cons_succ]
          refine wpAnyH_ready (rs := [9]) (by kernel_rfl) (by simp) ?_
          refine AllReadyH.cons (o := { dst := none, op := Op.store 41 (Operand.tmp 6) (Operand.tmp 14), type := 0, pos := _, after := _, guard := none }) rfl (fun K hK => ?_) AllReadyH.nil
          obtain ⟨z1, z2, s0, s1, s2, s3, s4, s5⟩ := H6.out
          go_simp
          have hb : Below (w.heap.size + 3) wq18 (Span.set6 wq18 (wq11.heap.size) (.int .i64 2) (.int .u64 (x.v.a : Int)) (.int .u64 (x.v.b : Int)) (.int .u64 (x.v.c : Int)) (.slice x.A x.v.pre.length x.c) (.slice none 0 0)) := below_set6 (Below.refl _ _) (by omega) (.int .i64 2) (.int .u64 (x.v.a : Int)) (.int .u64 (x.v.b : Int)) (.int .u64 (x.v.c : Int)) (.slice x.A x.v.pre.length x.c) (.slice none 0 0)
          replace HB : Hid (Below w.heap.size w (Span.set6 wq18 (wq11.heap.size) (.int .i64 2) (.int .u64 (x.v.a : Int)) (.int .u64 (x.v.b : Int)) (.int .u64 (x.v.c : Int)) (.slice x.A x.v.pre.length x.c) (.slice none 0 0))) := below_set6 HB.out (by omega) (.int .i64 2) (.int .u64 (x.v.a : Int)) (.int .u64 (x.v.b : Int)) (.int .u64 (x.v.c : Int)) (.slice x.A x.v.pre.length x.c) (.slice none 0 0)
          replace HR := Lib.hid (HR.out.kept hb (by omega))
          replace HL := Lib.hid (HL.out.kept hb (by omega))
          replace HH := Lib.hid (HH.out.kept hb (by omega))
          replace H6 := Lib.hid (H6.out.set6 (.int .i64 2) (.int .u64 (x.v.a : Int)) (.int .u64 (x.v.b : Int)) (.int .u64 (x.v.c : Int)) (.slice x.A x.v.pre.length x.c) (.slice none 0 0))
          replace H5 := Lib.hid (six_ne H5.out hne (.int .i64 2) (.int .u64 (x.v.a : Int)) (.int .u64 (x.v.b : Int)) (.int .u64 (x.v.c : Int)) (.slice x.A x.v.pre.length x.c) (.slice none 0 0))
          clear hb hHeld z1 z2 s0 s1 s2 s3 s4 s5
          change K _ (Span.set6 wq18 (wq11.heap.size) (.int .i64 2) (.int .u64 (x.v.a : Int)) (.int .u64 (x.v.b : Int)) (.int .u64 (x.v.c : Int)) (.slice x.A x.v.pre.length x.c) (.slice none 0 0))
          generalize Span.set6 wq18 (wq11.heap.size) (.int .i64 2) (.int .u64 (x.v.a : Int)) (.int .u64 (x.v.b : Int)) (.int .u64 (x.v.c : Int)) (.slice x.A x.v.pre.length x.c) (.slice none 0 0) = wq19 at HB HR HL HH H5 H6 ⊢
          refine hK.out _ _ HR.out (fun hHeld => ?_)
          clear hK K
          try simp only [Act.put, List.setIfInBounds_toArray, List.set_cons_zero, List.set_cons_succ]
          refine wpAnyH_done (by kernel_rfl) ?_ _
          go_wp2
          go_meet
          exact ⟨_, _, rfl, rfl, H5.out, H6.out, HR.out, HL.out, HH.out, HB.out⟩
      · go_simp
        have hb : Below wq1.heap.size wq1 (wq1.alloc (.cells #[.int .i64 0, .int .u64 0, .int .u64 0, .int .u64 0, .slice none 0 0, .slice none 0 0] 41)) := (Below.refl _ _).alloc (Nat.le_refl _) _
        have hp6 : w.heap.size + 2 < wq1.heap.size := HH.out.1
        replace HB : Hid (Below w.heap.size w (wq1.alloc (.cells #[.int .i64 0, .int .u64 0, .int .u64 0, .int .u64 0, .slice none 0 0, .slice none 0 0] 41))) := HB.out.trans (hb.mono HB.out.size)
        replace HR := Lib.hid (HR.out.kept hb HR.out.1)
        replace HL := Lib.hid (HL.out.kept hb HL.out.1)
        replace HH := Lib.hid (HH.out.kept hb HH.out.1)
        have H6 : Hid (At6B (wq1.alloc (.cells #[.int .i64 0, .int .u64 0, .int .u64 0, .int .u64 0, .slice none 0 0, .slice none 0 0] 41)) wq1.heap.size (.int .i64 0) (.int .u64 0) (.int .u64 0) (.int .u64 0) (.slice none 0 0) (.slice none 0 0)) := At6B.new _ _ _ _ _ _ _ _
        clear hb hHeld
        generalize (wq1.alloc (.cells #[.int .i64 0, .int .u64 0, .int .u64 0, .int .u64 0, .slice none 0 0, .slice none 0 0] 41)) = wq20 at HB HR HL HH H6 ⊢
        refine hK.out _ _ HR.out (fun hHeld => ?_)
        clear hK K
        try simp only [Act.put, List.setIfInBounds_toArray, List.set_cons_zero, List.set_cons_succ]
        refine wpAnyH_ready (rs := [5, 6]) (by kernel_rfl) (by simp) ?_
        refine AllReadyH.cons (o := { dst := some 14, op := Op.call { callee := Callee.value (Operand.func 96), args := #[Operand.const (Value.int IntKind.i64 2), Operand.tmp 13], argTypes := #[3, 25] }, type := 41, pos := _, after := _, guard := none }) rfl (fun K hK => ?_) (AllReadyH.cons (o := { dst := some 5, op := Op.alloc 41, type := 0, pos := _, after := _, guard := none }) rfl (fun K hK => ?_) AllReadyH.nil)
        · go_simp
          refine (ncut_any 2 x.v x.A x.c x.B x.d _).mono ?_
          rintro e wq21 ⟨rfl, hb⟩
          replace HB : Hid (Below w.heap.size w wq21) := HB.out.trans (hb.mono HB.out.size)
          replace HR := Lib.hid (HR.out.kept hb HR.out.1)
          replace HL := Lib.hid (HL.out.kept hb HL.out.1)
          replace HH := Lib.hid (HH.out.kept hb HH.out.1)
          replace H6 := Lib.hid (H6.out.kept hb H6.out.1)
          clear hb hHeld
          refine hK.out _ _ HR.out (fun hHeld => ?_)
          clear hK K
          try simp only [Act.put, List.setIfInBounds_toArray, List.set_cons_zero, List.set_cons_succ]
          refine wpAnyH_ready (rs := [6]) (by kernel_rfl) (by simp) ?_
          refine AllReadyH.cons (o := { dst := some 5, op := Op.alloc 41, type := 0, pos := _, after := _, guard := none }) rfl (fun K hK => ?_) AllReadyH.nil
          go_simp
          have hb : Below wq21.heap.size wq21 (wq21.alloc (.cells #[.int .i64 0, .int .u64 0, .int .u64 0, .int .u64 0, .slice none 0 0, .slice none 0 0] 41)) := (Below.refl _ _).alloc (Nat.le_refl _) _
          have hne : wq21.heap.size ≠ wq1.heap.size := Nat.ne_of_gt H6.out.1
          have hp5 : w.heap.size + 2 < wq21.heap.size := HH.out.1
          replace HB : Hid (Below w.heap.size w (wq21.alloc (.cells #[.int .i64 0, .int .u64 0, .int .u64 0, .int .u64 0, .slice none 0 0, .slice none 0 0] 41))) := HB.out.trans (hb.mono HB.out.size)
          replace HR := Lib.hid (HR.out.kept hb HR.out.1)
          replace HL := Lib.hid (HL.out.kept hb HL.out.1)
          replace HH := Lib.hid (HH.out.kept hb HH.out.1)
          replace H6 := Lib.hid (H6.out.kept hb H6.out.1)
          have H5 : Hid (At6B (wq21.alloc (.cells #[.int .i64 0, .int .u64 0, .int .u64 0, .int .u64 0, .slice none 0 0, .slice none 0 0] 41)) wq21.heap.size (.int .i64 0) (.int .u64 0) (.int .u64 0) (.int .u64 0) (.slice none 0 0) (.slice none 0 0)) := At6B.new _ _ _ _ _ _ _ _
          clear hb hHeld
          generalize (wq21.alloc (.cells #[.int .i64 0, .int .u64 0, .int .u64 0, .int .u64 0, .slice none 0 0, .slice none 0 0] 41)) = wq22 at HB HR HL HH H6 H5 ⊢
          refine hK.out _ _ HR.out (fun hHeld => ?_)
          clear hK K
          try simp only [Act.put, List.setIfInBounds_toArray, List.set_cons_zero, List.set_cons_succ]
          refine wpAnyH_ready (rs := [8]) (by kernel_rfl) (by simp) ?_
          refine AllReadyH.cons (o := { dst := none, op := Op.store 41 (Operand.tmp 5) (Operand.tmp 11), type := 0, pos := _, after := _, guard := none }) rfl (fun K hK => ?_) AllReadyH.nil
          obtain ⟨z1, z2, s0, s1, s2, s3, s4, s5⟩ := H5.out
          go_simp
          have hb : Below (w.heap.size + 3) wq22 (Span.set6 wq22 (wq21.heap.size) (.int .i64 1) (.int .u64 (x.v.a : Int)) (.int .u64 (x.v.b : Int)) (.int .u64 (x.v.c : Int)) (.slice x.A x.v.pre.length x.c) (.slice none 0 0)) := below_set6 (Below.refl _ _) (by omega) (.int .i64 1) (.int .u64 (x.v.a : Int)) (.int .u64 (x.v.b : Int)) (.int .u64 (x.v.c : Int)) (.slice x.A x.v.pre.length x.c) (.slice none 0 0)
          replace HB : Hid (Below w.heap.size w (Span.set6 wq22 (wq21.heap.size) (.int .i64 1) (.int .u64 (x.v.a : Int)) (.int .u64 (x.v.b : Int)) (.int .u64 (x.v.c : Int)) (.slice x.A x.v.pre.length x.c) (.slice none 0 0))) := below_set6 HB.out (by omega) (.int .i64 1) (.int .u64 (x.v.a : Int)) (.int .u64 (x.v.b : Int)) (.int .u64 (x.v.c : Int)) (.slice x.A x.v.pre.length x.c) (.slice none 0 0)
          replace HR := Lib.hid (HR.out.kept hb (by omega))
          replace HL := Lib.hid (HL.out.kept hb (by omega))
          replace HH := Lib.hid (HH.out.kept hb (by omega))
          replace H5 := Lib.hid (H5.out.set6 (.int .i64 1) (.int .u64 (x.v.a : Int)) (.int .u64 (x.v.b : Int)) (.int .u64 (x.v.c : Int)) (.slice x.A x.v.pre.length x.c) (.slice none 0 0))
          replace H6 := Lib.hid (six_ne H6.out hne.symm (.int .i64 1) (.int .u64 (x.v.a : Int)) (.int .u64 (x.v.b : Int)) (.int .u64 (x.v.c : Int)) (.slice x.A x.v.pre.length x.c) (.slice none 0 0))
          clear hb hHeld z1 z2 s0 s1 s2 s3 s4 s5
          change K _ (Span.set6 wq22 (wq21.heap.size) (.int .i64 1) (.int .u64 (x.v.a : Int)) (.int .u64 (x.v.b : Int)) (.int .u64 (x.v.c : Int)) (.slice x.A x.v.pre.length x.c) (.slice none 0 0))
          generalize Span.set6 wq22 (wq21.heap.size) (.int .i64 1) (.int .u64 (x.v.a : Int)) (.int .u64 (x.v.b : Int)) (.int .u64 (x.v.c : Int)) (.slice x.A x.v.pre.length x.c) (.slice none 0 0) = wq23 at HB HR HL HH H5 H6 ⊢
          refine hK.out _ _ HR.out (fun hHeld => ?_)
          clear hK K
          try simp only [Act.put, List.setIfInBounds_toArray, List.set_cons_zero, List.set_cons_succ]
          refine wpAnyH_ready (rs := [9]) (by kernel_rfl) (by simp) ?_
          refine AllReadyH.cons (o := { dst := none, op := Op.store 41 (Operand.tmp 6) (Operand.tmp 14), type := 0, pos := _, after := _, guard := none }) rfl (fun K hK => ?_) AllReadyH.nil
          obtain ⟨z1, z2, s0, s1, s2, s3, s4, s5⟩ := H6.out
          go_simp
          have hb : Below (w.heap.size + 3) wq23 (Span.set6 wq23 (wq1.heap.size) (.int .i64 2) (.int .u64 (x.v.a : Int)) (.int .u64 (x.v.b : Int)) (.int .u64 (x.v.c : Int)) (.slice x.A x.v.pre.length x.c) (.slice none 0 0)) := below_set6 (Below.refl _ _) (by omega) (.int .i64 2) (.int .u64 (x.v.a : Int)) (.int .u64 (x.v.b : Int)) (.int .u64 (x.v.c : Int)) (.slice x.A x.v.pre.length x.c) (.slice none 0 0)
          replace HB : Hid (Below w.heap.size w (Span.set6 wq23 (wq1.heap.size) (.int .i64 2) (.int .u64 (x.v.a : Int)) (.int .u64 (x.v.b : Int)) (.int .u64 (x.v.c : Int)) (.slice x.A x.v.pre.length x.c) (.slice none 0 0))) := below_set6 HB.out (by omega) (.int .i64 2) (.int .u64 (x.v.a : Int)) (.int .u64 (x.v.b : Int)) (.int .u64 (x.v.c : Int)) (.slice x.A x.v.pre.length x.c) (.slice none 0 0)
          replace HR := Lib.hid (HR.out.kept hb (by omega))
          replace HL := Lib.hid (HL.out.kept hb (by omega))
          replace HH := Lib.hid (HH.out.kept hb (by omega))
          replace H6 := Lib.hid (H6.out.set6 (.int .i64 2) (.int .u64 (x.v.a : Int)) (.int .u64 (x.v.b : Int)) (.int .u64 (x.v.c : Int)) (.slice x.A x.v.pre.length x.c) (.slice none 0 0))
          replace H5 := Lib.hid (six_ne H5.out hne (.int .i64 2) (.int .u64 (x.v.a : Int)) (.int .u64 (x.v.b : Int)) (.int .u64 (x.v.c : Int)) (.slice x.A x.v.pre.length x.c) (.slice none 0 0))
          clear hb hHeld z1 z2 s0 s1 s2 s3 s4 s5
          change K _ (Span.set6 wq23 (wq1.heap.size) (.int .i64 2) (.int .u64 (x.v.a : Int)) (.int .u64 (x.v.b : Int)) (.int .u64 (x.v.c : Int)) (.slice x.A x.v.pre.length x.c) (.slice none 0 0))
          generalize Span.set6 wq23 (wq1.heap.size) (.int .i64 2) (.int .u64 (x.v.a : Int)) (.int .u64 (x.v.b : Int)) (.int .u64 (x.v.c : Int)) (.slice x.A x.v.pre.length x.c) (.slice none 0 0) = wq24 at HB HR HL HH H5 H6 ⊢
          refine hK.out _ _ HR.out (fun hHeld => ?_)
          clear hK K
          try simp only [Act.put, List.setIfInBounds_toArray, List.set_cons_zero, List.set_cons_succ]
          refine wpAnyH_done (by kernel_rfl) ?_ _
          go_wp2
          go_meet
          exact ⟨_, _, rfl, rfl, H5.out, H6.out, HR.out, HL.out, HH.out, HB.out⟩
        · go_simp
          have hb : Below wq20.heap.size wq20 (wq20.alloc (.cells #[.int .i64 0, .int .u64 0, .int .u64 0, .int .u64 0, .slice none 0 0, .slice none 0 0] 41)) := (Below.refl _ _).alloc (Nat.le_refl _) _
          have hne : wq20.heap.size ≠ wq1.heap.size := Nat.ne_of_gt H6.out.1
          have hp5 : w.heap.size + 2 < wq20.heap.size := HH.out.1
          replace HB : Hid (Below w.heap.size w (wq20.alloc (.cells #[.int .i64 0, .int .u64 0, .int .u64 0, .int .u64 0, .slice none 0 0, .slice none 0 0] 41))) := HB.out.trans (hb.mono HB.out.size)
          replace HR := Lib.hid (HR.out.kept hb HR.out.1)
          replace HL := Lib.hid (HL.out.kept hb HL.out.1)
          replace HH := Lib.hid (HH.out.kept hb HH.out.1)
          replace H6 := Lib.hid (H6.out.kept hb H6.out.1)
          have H5 : Hid (At6B (wq20.alloc (.cells #[.int .i64 0, .int .u64 0, .int .u64 0, .int .u64 0, .slice none 0 0, .slice none 0 0] 41)) wq20.heap.size (.int .i64 0) (.int .u64 0) (.int .u64 0) (.int .u64 0) (.slice none 0 0) (.slice none 0 0)) := At6B.new _ _ _ _ _ _ _ _
          clear hb hHeld
          generalize (wq20.alloc (.cells #[.int .i64 0, .int .u64 0, .int .u64 0, .int .u64 0, .slice none 0 0, .slice none 0 0] 41)) = wq25 at HB HR HL HH H6 H5 ⊢
          refine hK.out _ _ HR.out (fun hHeld => ?_)
          clear hK K
          try simp only [Act.put, List.setIfInBounds_toArray, List.set_cons_zero, List.set_cons_succ]
          refine wpAnyH_ready (rs := [5]) (by kernel_rfl) (by simp) ?_
          refine AllReadyH.cons (o := { dst := some 14, op := Op.call { callee := Callee.value (Operand.func 96), args := #[Operand.const (Value.int IntKind.i64 2), Operand.tmp 13], argTypes := #[3, 25] }, type := 41, pos := _, after := _, guard := none }) rfl (fun K hK => ?_) AllReadyH.nil
          go_simp
          refine (ncut_any 2 x.v x.A x.c x.B x.d _).mono ?_
          rintro e wq26 ⟨rfl, hb⟩
          replace HB : Hid (Below w.heap.size w wq26) := HB.out.trans (hb.mono HB.out.size)
          replace HR := Lib.hid (HR.out.kept hb HR.out.1)
          replace HL := Lib.hid (HL.out.kept hb HL.out.1)
          replace HH := Lib.hid (HH.out.kept hb HH.out.1)
          replace H5 := Lib.hid (H5.out.kept hb H5.out.1)
          replace H6 := Lib.hid (H6.out.kept hb H6.out.1)
          clear hb hHeld
          refine hK.out _ _ HR.out (fun hHeld => ?_)
          clear hK K
          try simp only [Act.put, List.setIfInBounds_toArray, List.set_cons_zero, List.set_cons_succ]
          refine wpAnyH_ready (rs := [8]) (by kernel_rfl) (by simp) ?_
          refine AllReadyH.cons (o := { dst := none, op := Op.store 41 (Operand.tmp 5) (Operand.tmp 11), type := 0, pos := _, after := _, guard := none }) rfl (fun K hK => ?_) AllReadyH.nil
          obtain ⟨z1, z2, s0, s1, s2, s3, s4, s5⟩ := H5.out
          go_simp
          have hb : Below (w.heap.size + 3) wq26 (Span.set6 wq26 (wq20.heap.size) (.int .i64 1) (.int .u64 (x.v.a : Int)) (.int .u64 (x.v.b : Int)) (.int .u64 (x.v.c : Int)) (.slice x.A x.v.pre.length x.c) (.slice none 0 0)) := below_set6 (Below.refl _ _) (by omega) (.int .i64 1) (.int .u64 (x.v.a : Int)) (.int .u64 (x.v.b : Int)) (.int .u64 (x.v.c : Int)) (.slice x.A x.v.pre.length x.c) (.slice none 0 0)
          replace HB : Hid (Below w.heap.size w (Span.set6 wq26 (wq20.heap.size) (.int .i64 1) (.int .u64 (x.v.a : Int)) (.int .u64 (x.v.b : Int)) (.int .u64 (x.v.c : Int)) (.slice x.A x.v.pre.length x.c) (.slice none 0 0))) := below_set6 HB.out (by omega) (.int .i64 1) (.int .u64 (x.v.a : Int)) (.int .u64 (x.v.b : Int)) (.int .u64 (x.v.c : Int)) (.slice x.A x.v.pre.length x.c) (.slice none 0 0)
          replace HR := Lib.hid (HR.out.kept hb (by omega))
          replace HL := Lib.hid (HL.out.kept hb (by omega))
          replace HH := Lib.hid (HH.out.kept hb (by omega))
          replace H5 := Lib.hid (H5.out.set6 (.int .i64 1) (.int .u64 (x.v.a : Int)) (.int .u64 (x.v.b : Int)) (.int .u64 (x.v.c : Int)) (.slice x.A x.v.pre.length x.c) (.slice none 0 0))
          replace H6 := Lib.hid (six_ne H6.out hne.symm (.int .i64 1) (.int .u64 (x.v.a : Int)) (.int .u64 (x.v.b : Int)) (.int .u64 (x.v.c : Int)) (.slice x.A x.v.pre.length x.c) (.slice none 0 0))
          clear hb hHeld z1 z2 s0 s1 s2 s3 s4 s5
          change K _ (Span.set6 wq26 (wq20.heap.size) (.int .i64 1) (.int .u64 (x.v.a : Int)) (.int .u64 (x.v.b : Int)) (.int .u64 (x.v.c : Int)) (.slice x.A x.v.pre.length x.c) (.slice none 0 0))
          generalize Span.set6 wq26 (wq20.heap.size) (.int .i64 1) (.int .u64 (x.v.a : Int)) (.int .u64 (x.v.b : Int)) (.int .u64 (x.v.c : Int)) (.slice x.A x.v.pre.length x.c) (.slice none 0 0) = wq27 at HB HR HL HH H5 H6 ⊢
          refine hK.out _ _ HR.out (fun hHeld => ?_)
          clear hK K
          try simp only [Act.put, List.setIfInBounds_toArray, List.set_cons_zero, List.set_cons_succ]
          refine wpAnyH_ready (rs := [9]) (by kernel_rfl) (by simp) ?_
          refine AllReadyH.cons (o := { dst := none, op := Op.store 41 (Operand.tmp 6) (Operand.tmp 14), type := 0, pos := _, after := _, guard := none }) rfl (fun K hK => ?_) AllReadyH.nil
          obtain ⟨z1, z2, s0, s1, s2, s3, s4, s5⟩ := H6.out
          go_simp
          have hb : Below (w.heap.size + 3) wq27 (Span.set6 wq27 (wq1.heap.size) (.int .i64 2) (.int .u64 (x.v.a : Int)) (.int .u64 (x.v.b : Int)) (.int .u64 (x.v.c : Int)) (.slice x.A x.v.pre.length x.c) (.slice none 0 0)) := below_set6 (Below.refl _ _) (by omega) (.int .i64 2) (.int .u64 (x.v.a : Int)) (.int .u64 (x.v.b : Int)) (.int .u64 (x.v.c : Int)) (.slice x.A x.v.pre.length x.c) (.slice none 0 0)
          replace HB : Hid (Below w.heap.size w (Span.set6 wq27 (wq1.heap.size) (.int .i64 2) (.int .u64 (x.v.a : Int)) (.int .u64 (x.v.b : Int)) (.int .u64 (x.v.c : Int)) (.slice x.A x.v.pre.length x.c) (.slice none 0 0))) := below_set6 HB.out (by omega) (.int .i64 2) (.int .u64 (x.v.a : Int)) (.int .u64 (x.v.b : Int)) (.int .u64 (x.v.c : Int)) (.slice x.A x.v.pre.length x.c) (.slice none 0 0)
          replace HR := Lib.hid (HR.out.kept hb (by omega))
          replace HL := Lib.hid (HL.out.kept hb (by omega))
          replace HH := Lib.hid (HH.out.kept hb (by omega))
          replace H6 := Lib.hid (H6.out.set6 (.int .i64 2) (.int .u64 (x.v.a : Int)) (.int .u64 (x.v.b : Int)) (.int .u64 (x.v.c : Int)) (.slice x.A x.v.pre.length x.c) (.slice none 0 0))
          replace H5 := Lib.hid (six_ne H5.out hne (.int .i64 2) (.int .u64 (x.v.a : Int)) (.int .u64 (x.v.b : Int)) (.int .u64 (x.v.c : Int)) (.slice x.A x.v.pre.length x.c) (.slice none 0 0))
          clear hb hHeld z1 z2 s0 s1 s2 s3 s4 s5
          change K _ (Span.set6 wq27 (wq1.heap.size) (.int .i64 2) (.int .u64 (x.v.a : Int)) (.int .u64 (x.v.b : Int)) (.int .u64 (x.v.c : Int)) (.slice x.A x.v.pre.length x.c) (.slice none 0 0))
          generalize Span.set6 wq27 (wq1.heap.size) (.int .i64 2) (.int .u64 (x.v.a : Int)) (.int .u64 (x.v.b : Int)) (.int .u64 (x.v.c : Int)) (.slice x.A x.v.pre.length x.c) (.slice none 0 0) = wq28 at HB HR HL HH H5 H6 ⊢
          refine hK.out _ _ HR.out (fun hHeld => ?_)
          clear hK K
          try simp only [Act.put, List.setIfInBounds_toArray, List.set_cons_zero, List.set_cons_succ]
          refine wpAnyH_done (by kernel_rfl) ?_ _
          go_wp2
          go_meet
          exact ⟨_, _, rfl, rfl, H5.out, H6.out, HR.out, HL.out, HH.out, HB.out⟩
    · go_simp
      have hb : Below W1.heap.size W1 (W1.alloc (.cells #[.int .i64 0, .int .u64 0, .int .u64 0, .int .u64 0, .slice none 0 0, .slice none 0 0] 41)) := (Below.refl _ _).alloc (Nat.le_refl _) _
      have hp5 : w.heap.size + 2 < W1.heap.size := HH.out.1
      replace HB : Hid (Below w.heap.size w (W1.alloc (.cells #[.int .i64 0, .int .u64 0, .int .u64 0, .int .u64 0, .slice none 0 0, .slice none 0 0] 41))) := HB.out.trans (hb.mono HB.out.size)
      replace HR := Lib.hid (HR.out.kept hb HR.out.1)
      replace HL := Lib.hid (HL.out.kept hb HL.out.1)
      replace HH := Lib.hid (HH.out.kept hb HH.out.1)
      have H5 : Hid (At6B (W1.alloc (.cells #[.int .i64 0, .int .u64 0, .int .u64 0, .int .u64 0, .slice none 0 0, .slice none 0 0] 41)) W1.heap.size (.int .i64 0) (.int .u64 0) (.int .u64 0) (.int .u64 0) (.slice none 0 0) (.slice none 0 0)) := At6B.new _ _ _ _ _ _ _ _
      clear hb hHeld
      generalize (W1.alloc (.cells #[.int .i64 0, .int .u64 0, .int .u64 0, .int .u64 0, .slice none 0 0, .slice none 0 0] 41)) = wq29 at HB HR HL HH H5 ⊢
      refine hK.out _ _ HR.out (fun hHeld => ?_)
      clear hK K
      try simp only [Act.put, List.setIfInBounds_toArray, List.set_cons_zero, List.set_cons_succ]
      refine wpAnyH_ready (rs := [2, 7]) (by kernel_rfl) (by simp) ?_
      refine AllReadyH.cons (o := { dst := some 11, op := Op.call { callee := Callee.value (Operand.func 96), args := #[Operand.const (Value.int IntKind.i64 1), Operand.tmp 10], argTypes := #[3, 25] }, type := 41, pos := _, after := _, guard := none }) rfl (fun K hK => ?_) (AllReadyH.cons (o := { dst := some 6, op := Op.alloc 41, type := 0, pos := _, after := _, guard := none }) rfl (fun K hK => ?_) AllReadyH.nil)
      · go_simp
        refine (ncut_any 1 x.v x.A x.c x.B x.d _).mono ?_
        rintro e wq30 ⟨rfl, hb⟩
        replace HB : Hid (Below w.heap.size w wq30) := HB.out.trans (hb.mono HB.out.size)
        replace HR := Lib.hid (HR.out.kept hb HR.out.1)
        replace HL := Lib.hid (HL.out.kept hb HL.out.1)
        replace HH := Lib.hid (HH.out.kept hb HH.out.1)
        replace H5 := Lib.hid (H5.out.kept hb H5.out.1)
        clear hb hHeld
        refine hK.out _ _ HR.out (fun hHeld => ?_)
        clear hK K
        try simp only [Act.put, List.setIfInBounds_toArray, List.set_cons_zero, List.set_cons_succ]
        refine wpAnyH_ready (rs := [5, 7]) (by kernel_rfl) (by simp) ?_
        refine AllReadyH.cons (o := { dst := some 14, op := Op.call { callee := Callee.value (Operand.func 96), args := #[Operand.const (Value.int IntKind.i64 2), Operand.tmp 13], argTypes := #[3, 25] }, type := 41, pos := _, after := _, guard := none }) rfl (fun K hK => ?_) (AllReadyH.cons (o := { dst := some 6, op := Op.alloc 41, type := 0, pos := _, after := _, guard := none }) rfl (fun K hK => ?_) AllReadyH.nil)
        · go_simp
          refine (ncut_any 2 x.v x.A x.c x.B x.d _).mono ?_
          rintro e wq31 ⟨rfl, hb⟩
          replace HB : Hid (Below w.heap.size w wq31) := HB.out.trans (hb.mono HB.out.size)
          replace HR := Lib.hid (HR.out.kept hb HR.out.1)
          replace HL := Lib.hid (HL.out.kept hb HL.out.1)
          replace HH := Lib.hid (HH.out.kept hb HH.out.1)
          replace H5 := Lib.hid (H5.out.kept hb H5.out.1)
          clear hb hHeld
          refine hK.out _ _ HR.out (fun hHeld => ?_)
          clear hK K
          try simp only [Act.put, List.setIfInBounds_toArray, List.set_cons_zero, List.set_cons_succ]
          refine wpAnyH_ready (rs := [7]) (by kernel_rfl) (by simp) ?_
          refine AllReadyH.cons (o := { dst := some 6, op := Op.alloc 41, type := 0, pos := _, after := _, guard := none }) rfl (fun K hK => ?_) AllReadyH.nil
          go_simp
          have hb : Below wq31.heap.size wq31 (wq31.alloc (.cells #[.int .i64 0, .int .u64 0, .int .u64 0, .int .u64 0, .slice none 0 0, .slice none 0 0] 41)) := (Below.refl _ _).alloc (Nat.le_refl _) _
          have hne : W1.heap.size ≠ wq31.heap.size := Nat.ne_of_lt H5.out.1
          have hp6 : w.heap.size + 2 < wq31.heap.size := HH.out.1
          replace HB : Hid (Below w.heap.size w (wq31.alloc (.cells #[.int .i64 0, .int .u64 0, .int .u64 0, .int .u64 0, .slice none 0 0, .slice none 0 0] 41))) := HB.out.trans (hb.mono HB.out.size)
          replace HR := Lib.hid (HR.out.kept hb HR.out.1)
          replace HL := Lib.hid (HL.out.kept hb HL.out.1)
          replace HH := Lib.hid (HH.out.kept hb HH.out.1)
          replace H5 := Lib.hid (H5.out.kept hb H5.out.1)
          have H6 : Hid (At6B (wq31.alloc (.cells #[.int .i64 0, .int .u64 0, .int .u64 0, .int .u64 0, .slice none 0 0, .slice none 0 0] 41)) wq31.heap.size (.int .i64 0) (.int .u64 0) (.int .u64 0) (.int .u64 0) (.slice none 0 0) (.slice none 0 0)) := At6B.new _ _ _ _ _ _ _ _
          clear hb hHeld
          generalize (wq31.alloc (.cells #[.int .i64 0, .int .u64 0, .int .u64 0, .int .u64 0, .slice none 0 0, .slice none 0 0] 41)) = wq32 at HB HR HL HH H5 H6 ⊢
          refine hK.out _ _ HR.out (fun hHeld => ?_)
          clear hK K
          try simp only [Act.put, List.setIfInBounds_toArray, List.set_cons_zero, List.set_cons_succ]
          refine wpAnyH_ready (rs := [8]) (by kernel_rfl) (by simp) ?_
          refine AllReadyH.cons (o := { dst := none, op := Op.store 41 (Operand.tmp 5) (Operand.tmp 11), type := 0, pos := _, after := _, guard := none }) rfl (fun K hK => ?_) AllReadyH.nil
          obtain ⟨z1, z2, s0, s1, s2, s3, s4, s5⟩ := H5.out
          go_simp
          have hb : Below (w.heap.size + 3) wq32 (Span.set6 wq32 (W1.heap.size) (.int .i64 1) (.int .u64 (x.v.a : Int)) (.int .u64 (x.v.b : Int)) (.int .u64 (x.v.c : Int)) (.slice x.A x.v.pre.length x.c) (.slice none 0 0)) := below_set6 (Below.refl _ _) (by omega) (.int .i64 1) (.int .u64 (x.v.a : Int)) (.int .u64 (x.v.b : Int)) (.int .u64 (x.v.c : Int)) (.slice x.A x.v.pre.length x.c) (.slice none 0 0)
          replace HB : Hid (Below w.heap.size w (Span.set6 wq32 (W1.heap.size) (.int .i64 1) (.int .u64 (x.v.a : Int)) (.int .u64 (x.v.b : Int)) (.int .u64 (x.v.c : Int)) (.slice x.A x.v.pre.length x.c) (.slice none 0 0))) := below_set6 HB.out (by omega) (.int .i64 1) (.int .u64 (x.v.a : Int)) (.int .u64 (x.v.b : Int)) (.int .u64 (x.v.c : Int)) (.slice x.A x.v.pre.length x.c) (.slice none 0 0)
          replace HR := Lib.hid (HR.out.kept hb (by omega))
          replace HL := Lib.hid (HL.out.kept hb (by omega))
          replace HH := Lib.hid (HH.out.kept hb (by omega))
          replace H5 := Lib.hid (H5.out.set6 (.int .i64 1) (.int .u64 (x.v.a : Int)) (.int .u64 (x.v.b : Int)) (.int .u64 (x.v.c : Int)) (.slice x.A x.v.pre.length x.c) (.slice none 0 0))
          replace H6 := Lib.hid (six_ne H6.out hne.symm (.int .i64 1) (.int .u64 (x.v.a : Int)) (.int .u64 (x.v.b : Int)) (.int .u64 (x.v.c : Int)) (.slice x.A x.v.pre.length x.c) (.slice none 0 0))
          clear hb hHeld z1 z2 s0 s1 s2 s3 s4 s5
          change K _ (Span.set6 wq32 (W1.heap.size) (.int .i64 1) (.int .u64 (x.v.a : Int)) (.int .u64 (x.v.b : Int)) (.int .u64 (x.v.c : Int)) (.slice x.A x.v.pre.length x.c) (.slice none 0 0))
          generalize Span.set6 wq32 (W1.heap.size) (.int .i64 1) (.int .u64 (x.v.a : Int)) (.int .u64 (x.v.b : Int)) (.int .u64 (x.v.c : Int)) (.slice x.A x.v.pre.length x.c) (.slice none 0 0) = wq33 at HB HR HL HH H5 H6 ⊢
          refine hK.out _ _ HR.out (fun hHeld => ?_)
          clear hK K
          try simp only [Act.put, List.setIfInBounds_toArray, List.set_cons_zero, List.set_cons_succ]
          refine wpAnyH_ready (rs := [9]) (by kernel_rfl) (by simp) ?_
          refine AllReadyH.cons (o := { dst := none, op := Op.store 41 (Operand.tmp 6) (Operand.tmp 14), type := 0, pos := _, after := _, guard := none }) rfl (fun K hK => ?_) AllReadyH.nil
          obtain ⟨z1, z2, s0, s1, s2, s3, s4, s5⟩ := H6.out
          go_simp
          have hb : Below (w.heap.size + 3) wq33 (Span.set6 wq33 (wq31.heap.size) (.int .i64 2) (.int .u64 (x.v.a : Int)) (.int .u64 (x.v.b : Int)) (.int .u64 (x.v.c : Int)) (.slice x.A x.v.pre.length x.c) (.slice none 0 0)) := below_set6 (Below.refl _ _) (by omega) (.int .i64 2) (.int .u64 (x.v.a : Int)) (.int .u64 (x.v.b : Int)) (.int .u64 (x.v.c : Int)) (.slice x.A x.v.pre.length x.c) (.slice none 0 0)
          replace HB : Hid (Below w.heap.size w (Span.set6 wq33 (wq31.heap.size) (.int .i64 2) (.int .u64 (x.v.a : Int)) (.int .u64 (x.v.b : Int)) (.int .u64 (x.v.c : Int)) (.slice x.A x.v.pre.length x.c) (.slice none 0 0))) := below_set6 HB.out (by omega) (.int .i64 2) (.int .u64 (x.v.a : Int)) (.int .u64 (x.v.b : Int)) (.int .u64 (x.v.c : Int)) (.slice x.A x.v.pre.length x.c) (.slice none 0 0)
          replace HR := Lib.hid (HR.out.kept hb (by omega))
          replace HL := Lib.hid (HL.out.kept hb (by omega))
          replace HH := Lib.hid (HH.out.kept hb (by omega))
          replace H6 := Lib.hid (H6.out.set6 (.int .i64 2) (.int .u64 (x.v.a : Int)) (.int .u64 (x.v.b : Int)) (.int .u64 (x.v.c : Int)) (.slice x.A x.v.pre.length x.c) (.slice none 0 0))
          replace H5 := Lib.hid (six_ne H5.out hne (.int .i64 2) (.int .u64 (x.v.a : Int)) (.int .u64 (x.v.b : Int)) (.int .u64 (x.v.c : Int)) (.slice x.A x.v.pre.length x.c) (.slice none 0 0))
          clear hb hHeld z1 z2 s0 s1 s2 s3 s4 s5
          change K _ (Span.set6 wq33 (wq31.heap.size) (.int .i64 2) (.int .u64 (x.v.a : Int)) (.int .u64 (x.v.b : Int)) (.int .u64 (x.v.c : Int)) (.slice x.A x.v.pre.length x.c) (.slice none 0 0))
          generalize Span.set6 wq33 (wq31.heap.size) (.int .i64 2) (.int .u64 (x.v.a : Int)) (.int .u64 (x.v.b : Int)) (.int .u64 (x.v.c : Int)) (.slice x.A x.v.pre.length x.c) (.slice none 0 0) = wq34 at HB HR HL HH H5 H6 ⊢
          refine hK.out _ _ HR.out (fun hHeld => ?_)
          clear hK K
          try simp only [Act.put, List.setIfInBounds_toArray, List.set_cons_zero, List.set_cons_succ]
          refine wpAnyH_done (by kernel_rfl) ?_ _
          go_wp2
          go_meet
          exact ⟨_, _, rfl, rfl, H5.out, H6.out, HR.out, HL.out, HH.out, HB.out⟩
        · go_simp
          have hb : Below wq30.heap.size wq30 (wq30.alloc (.cells #[.int .i64 0, .int .u64 0, .int .u64 0, .int .u64 0, .slice none 0 0, .slice none 0 0] 41)) := (Below.refl _ _).alloc (Nat.le_refl _) _
          have hne : W1.heap.size ≠ wq30.heap.size := Nat.ne_of_lt H5.out.1
          have hp6 : w.heap.size + 2 < wq30.heap.size := HH.out.1
          replace HB : Hid (Below w.heap.size w (wq30.alloc (.cells #[.int .i64 0, .int .u64 0, .int .u64 0, .int .u64 0, .slice none 0 0, .slice none 0 0] 41))) := HB.out.trans (hb.mono HB.out.size)
          replace HR := Lib.hid (HR.out.kept hb HR.out.1)
          replace HL := Lib.hid (HL.out.kept hb HL.out.1)
          replace HH := Lib.hid (HH.out.kept hb HH.out.1)
          replace H5 := Lib.hid (H5.out.kept hb H5.out.1)
          have H6 : Hid (At6B (wq30.alloc (.cells #[.int .i64 0, .int .u64 0, .int .u64 0, .int .u64 0, .slice none 0 0, .slice none 0 0] 41)) wq30.heap.size (.int .i64 0) (.int .u64 0) (.int .u64 0) (.int .u64 0) (.slice none 0 0) (.slice none 0 0)) := At6B.new _ _ _ _ _ _ _ _
          clear hb hHeld
          generalize (wq30.alloc (.cells #[.int .i64 0, .int .u64 0, .int .u64 0, .int .u64 0, .slice none 0 0, .slice none 0 0] 41)) = wq35 at HB HR HL HH H5 H6 ⊢
          refine hK.out _ _ HR.out (fun hHeld => ?_)
          clear hK K
          try simp only [Act.put, List.setIfInBounds_toArray, List.set_cons_zero, List.set_cons_succ]
          refine wpAnyH_ready (rs := [5]) (by kernel_rfl) (by simp) ?_
          refine AllReadyH.cons (o := { dst := some 14, op := Op.call { callee := Callee.value (Operand.func 96), args := #[Operand.const (Value.int IntKind.i64 2), Operand.tmp 13], argTypes := #[3, 25] }, type := 41, pos := _, after := _, guard := none }) rfl (fun K hK => ?_) AllReadyH.nil
          go_simp
          refine (ncut_any 2 x.v x.A x.c x.B x.d _).mono ?_
          rintro e wq36 ⟨rfl, hb⟩
          replace HB : Hid (Below w.heap.size w wq36) := HB.out.trans (hb.mono HB.out.size)
          replace HR := Lib.hid (HR.out.kept hb HR.out.1)
          replace HL := Lib.hid (HL.out.kept hb HL.out.1)
          replace HH := Lib.hid (HH.out.kept hb HH.out.1)
          replace H5 := Lib.hid (H5.out.kept hb H5.out.1)
          replace H6 := Lib.hid (H6.out.kept hb H6.out.1)
          clear hb hHeld
          refine hK.out _ _ HR.out (fun hHeld => ?_)
          clear hK K
          try simp only [Act.put, List.setIfInBounds_toArray, List.set_cons_zero, List.set_cons_succ]
          refine wpAnyH_ready (rs := [8]) (by kernel_rfl) (by simp) ?_
          refine AllReadyH.cons (o := { dst := none, op := Op.store 41 (Operand.tmp 5) (Operand.tmp 11), type := 0, pos := _, after := _, guard := none }) rfl (fun K hK => ?_) AllReadyH.nil
          obtain ⟨z1, z2, s0, s1, s2, s3, s4, s5⟩ := H5.out
          go_simp
          have hb : Below (w.heap.size + 3) wq36 (Span.set6 wq36 (W1.heap.size) (.int .i64 1) (.int .u64 (x.v.a : Int)) (.int .u64 (x.v.b : Int)) (.int .u64 (x.v.c : Int)) (.slice x.A x.v.pre.length x.c) (.slice none 0 0)) := below_set6 (Below.refl _ _) (by omega) (.int .i64 1) (.int .u64 (x.v.a : Int)) (.int .u64 (x.v.b : Int)) (.int .u64 (x.v.c : Int)) (.slice x.A x.v.pre.length x.c) (.slice none 0 0)
          replace HB : Hid (Below w.heap.size w (Span.set6 wq36 (W1.heap.size) (.int .i64 1) (.int .u64 (x.v.a : Int)) (.int .u64 (x.v.b : Int)) (.int .u64 (x.v.c : Int)) (.slice x.A x.v.pre.length x.c) (.slice none 0 0))) := below_set6 HB.out (by omega) (.int .i64 1) (.int .u64 (x.v.a : Int)) (.int .u64 (x.v.b : Int)) (.int .u64 (x.v.c : Int)) (.slice x.A x.v.pre.length x.c) (.slice none 0 0)
          replace HR := Lib.hid (HR.out.kept hb (by omega))
          replace HL := Lib.hid (HL.out.kept hb (by omega))
          replace HH := Lib.hid (HH.out.kept hb (by omega))
          replace H5 := Lib.hid (H5.out.set6 (.int .i64 1) (.int .u64 (x.v.a : Int)) (.int .u64 (x.v.b : Int)) (.int .u64 (x.v.c : Int)) (.slice x.A x.v.pre.length x.c) (.slice none 0 0))
          replace H6 := Lib.hid (six_ne H6.out hne.symm (.int .i64 1) (.int .u64 (x.v.a : Int)) (.int .u64 (x.v.b : Int)) (.int .u64 (x.v.c : Int)) (.slice x.A x.v.pre.length x.c) (.slice none 0 0))
          clear hb hHeld z1 z2 s0 s1 s2 s3 s4 s5
          change K _ (Span.set6 wq36 (W1.heap.size) (.int .i64 1) (.int .u64 (x.v.a : Int)) (.int .u64 (x.v.b : Int)) (.int .u64 (x.v.c : Int)) (.slice x.A x.v.pre.length x.c) (.slice none 0 0))
          generalize Span.set6 wq36 (W1.heap.size) (.int .i64 1) (.int .u64 (x.v.a : Int)) (.int .u64 (x.v.b : Int)) (.int .u64 (x.v.c : Int)) (.slice x.A x.v.pre.length x.c) (.slice none 0 0) = wq37 at HB HR HL HH H5 H6 ⊢
          refine hK.out _ _ HR.out (fun hHeld => ?_)
          clear hK K
          try simp only [Act.put, List.setIfInBounds_toArray, List.set_cons_zero, List.set_cons_succ]
          refine wpAnyH_ready (rs := [9]) (by kernel_rfl) (by simp) ?_
          refine AllReadyH.cons (o := { dst := none, op := Op.store 41 (Operand.tmp 6) (Operand.tmp 14), type := 0, pos := _, after := _, guard := none }) rfl (fun K hK => ?_) AllReadyH.nil
          obtain ⟨z1, z2, s0, s1, s2, s3, s4, s5⟩ := H6.out
          go_simp
          have hb : Below (w.heap.size + 3) wq37 (Span.set6 wq37 (wq30.heap.size) (.int .i64 2) (.int .u64 (x.v.a : Int)) (.int .u64 (x.v.b : Int)) (.int .u64 (x.v.c : Int)) (.slice x.A x.v.pre.length x.c) (.slice none 0 0)) := below_set6 (Below.refl _ _) (by omega) (.int .i64 2) (.int .u64 (x.v.a : Int)) (.int .u64 (x.v.b : Int)) (.int .u64 (x.v.c : Int)) (.slice x.A x.v.pre.length x.c) (.slice none 0 0)
          replace HB : Hid (Below w.heap.size w (Span.set6 wq37 (wq30.heap.size) (.int .i64 2) (.int .u64 (x.v.a : Int)) (.int .u64 (x.v.b : Int)) (.int .u64 (x.v.c : Int)) (.slice x.A x.v.pre.length x.c) (.slice none 0 0))) := below_set6 HB.out (by omega) (.int .i64 2) (.int .u64 (x.v.a : Int)) (.int .u64 (x.v.b : Int)) (.int .u64 (x.v.c : Int)) (.slice x.A x.v.pre.length x.c) (.slice none 0 0)
          replace HR := Lib.hid (HR.out.kept hb (by omega))
          replace HL := Lib.hid (HL.out.kept hb (by omega))
          replace HH := Lib.hid (HH.out.kept hb (by omega))
          replace H6 := Lib.hid (H6.out.set6 (.int .i64 2) (.int .u64 (x.v.a : Int)) (.int .u64 (x.v.b : Int)) (.int .u64 (x.v.c : Int)) (.slice x.A x.v.pre.length x.c) (.slice none 0 0))
          replace H5 := Lib.hid (six_ne H5.out hne (.int .i64 2) (.int .u64 (x.v.a : Int)) (.int .u64 (x.v.b : Int)) (.int .u64 (x.v.c : Int)) (.slice x.A x.v.pre.length x.c) (.slice none 0 0))
          clear hb hHeld z1 z2 s0 s1 s2 s3 s4 s5
          change K _ (Span.set6 wq37 (wq30.heap.size) (.int .i64 2) (.int .u64 (x.v.a : Int)) (.int .u64 (x.v.b : Int)) (.int .u64 (x.v.c : Int)) (.slice x.A x.v.pre.length x.c) (.slice none 0 0))
          generalize Span.set6 wq37 (wq30.heap.size) (.int .i64 2) (.int .u64 (x.v.a : Int)) (.int .u64 (x.v.b : Int)) (.int .u64 (x.v.c : Int)) (.slice x.A x.v.pre.length x.c) (.slice none 0 0) = wq38 at HB HR HL HH H5 H6 ⊢
          refine hK.out _ _ HR.out (fun hHeld => ?_)
          clear hK K
          try simp only [Act.put, List.setIfInBounds_toArray, List.set_cons_zero, List.set_cons_succ]
          refine wpAnyH_done (by kernel_rfl) ?_ _
          go_wp2
          go_meet
          exact ⟨_, _, rfl, rfl, H5.out, H6.out, HR.out, HL.out, HH.out, HB.out⟩
      · go_simp
        have hb : Below wq29.heap.size wq29 (wq29.alloc (.cells #[.int .i64 0, .int .u64 0, .int .u64 0, .int .u64 0, .slice none 0 0, .slice none 0 0] 41)) := (Below.refl _ _).alloc (Nat.le_refl _) _
        have hne : W1.heap.size ≠ wq29.heap.size := Nat.ne_of_lt H5.out.1
        have hp6 : w.heap.size + 2 < wq29.heap.size := HH.out.1
        replace HB : Hid (Below w.heap.size w (wq29.alloc (.cells #[.int .i64 0, .int .u64 0, .int .u64 0, .int .u64 0, .slice none 0 0, .slice none 0 0] 41))) := HB.out.trans (hb.mono HB.out.size)
        replace HR := Lib.hid (HR.out.kept hb HR.out.1)
        replace HL := Lib.hid (HL.out.kept hb HL.out.1)
        replace HH := Lib.hid (HH.out.kept hb HH.out.1)
        replace H5 := Lib.hid (H5.out.kept hb H5.out.1)
        have H6 : Hid (At6B (wq29.alloc (.cells #[.int .i64 0, .int .u64 0, .int .u64 0, .int .u64 0, .slice none 0 0, .slice none 0 0] 41)) wq29.heap.size (.int .i64 0) (.int .u64 0) (.int .u64 0) (.int .u64 0) (.slice none 0 0) (.slice none 0 0)) := At6B.new _ _ _ _ _ _ _ _
        clear hb hHeld
        generalize (wq29.alloc (.cells #[.int .i64 0, .int .u64 0, .int .u64 0, .int .u64 0, .slice none 0 0, .slice none 0 0] 41)) = wq39 at HB HR HL HH H5 H6 ⊢
        refine hK.out _ _ HR.out (fun hHeld => ?_)
        clear hK K
        try simp only [Act.put, List.setIfInBounds_toArray, List.set_cons_zero, List.set_cons_succ]
        refine wpAnyH_ready (rs := [2]) (by kernel_rfl) (by simp) ?_
        refine AllReadyH.cons (o := { dst := some 11, op := Op.call { callee := Callee.value (Operand.func 96), args := #[Operand.const (Value.int IntKind.i64 1), Operand.tmp 10], argTypes := #[3, 25] }, type := 41, pos := _, after := _, guard := none }) rfl (fun K hK => ?_) AllReadyH.nil
        go_simp
        refine (ncut_any 1 x.v x.A x.c x.B x.d _).mono ?_
        rintro e wq40 ⟨rfl, hb⟩
        replace HB : Hid (Below w.heap.size w wq40) := HB.out.trans (hb.mono HB.out.size)
        replace HR := Lib.hid (HR.out.kept hb HR.out.1)
        replace HL := Lib.hid (HL.out.kept hb HL.out.1)
        replace HH := Lib.hid (HH.out.kept hb HH.out.1)
        replace H5 := Lib.hid (H5.out.kept hb H5.out.1)
        replace H6 := Lib.hid (H6.out.kept hb H6.out.1)
        clear hb hHeld
        refine hK.out _ _ HR.out (fun hHeld => ?_)
        clear hK K
        try simp only [Act.put, List.setIfInBounds_toArray, List.set_cons_zero, List.set_cons_succ]
        refine wpAnyH_ready (rs := [5]) (by kernel_rfl) (by simp) ?_
        refine AllReadyH.cons (o := { dst := some 14, op := Op.call { callee := Callee.value (Operand.func 96), args := #[Operand.const (Value.int IntKind.i64 2), Operand.tmp 13], argTypes := #[3, 25] }, type := 41, pos := _, after := _, guard := none }) rfl (fun K hK => ?_) AllReadyH.nil
        go_simp
        refine (ncut_any 2 x.v x.A x.c x.B x.d _).mono ?_
        rintro e wq41 ⟨rfl, hb⟩
        replace HB : Hid (Below w.heap.size w wq41) := HB.out.trans (hb.mono HB.out.size)
        replace HR := Lib.hid (HR.out.kept hb HR.out.1)
        replace HL := Lib.hid (HL.out.kept hb HL.out.1)
        replace HH := Lib.hid (HH.out.kept hb HH.out.1)
        replace H5 := Lib.hid (H5.out.kept hb H5.out.1)
        replace H6 := Lib.hid (H6.out.kept hb H6.out.1)
        clear hb hHeld
        refine hK.out _ _ HR.out (fun hHeld => ?_)
        clear hK K
        try simp only [Act.put, List.setIfInBounds_toArray, List.set_cons_zero, List.set_cons_succ]
        refine wpAnyH_ready (rs := [8]) (by kernel_rfl) (by simp) ?_
        refine AllReadyH.cons (o := { dst := none, op := Op.store 41 (Operand.tmp 5) (Operand.tmp 11), type := 0, pos := _, after := _, guard := none }) rfl (fun K hK => ?_) AllReadyH.nil
        obtain ⟨z1, z2, s0, s1, s2, s3, s4, s5⟩ := H5.out
        go_simp
        have hb : Below (w.heap.size + 3) wq41 (Span.set6 wq41 (W1.heap.size) (.int .i64 1) (.int .u64 (x.v.a : Int)) (.int .u64 (x.v.b : Int)) (.int .u64 (x.v.c : Int)) (.slice x.A x.v.pre.length x.c) (.slice none 0 0)) := below_set6 (Below.refl _ _) (by omega) (.int .i64 1) (.int .u64 (x.v.a : Int)) (.int .u64 (x.v.b : Int)) (.int .u64 (x.v.c : Int)) (.slice x.A x.v.pre.length x.c) (.slice none 0 0)
        replace HB : Hid (Below w.heap.size w (Span.set6 wq41 (W1.heap.size) (.int .i64 1) (.int .u64 (x.v.a : Int)) (.int .u64 (x.v.b : Int)) (.int .u64 (x.v.c : Int)) (.slice x.A x.v.pre.length x.c) (.slice none 0 0))) := below_set6 HB.out (by omega) (.int .i64 1) (.int .u64 (x.v.a : Int)) (.int .u64 (x.v.b : Int)) (.int .u64 (x.v.c : Int)) (.slice x.A x.v.pre.length x.c) (.slice none 0 0)
        replace HR := Lib.hid (HR.out.kept hb (by omega))
        replace HL := Lib.hid (HL.out.kept hb (by omega))
        replace HH := Lib.hid (HH.out.kept hb (by omega))
        replace H5 := Lib.hid (H5.out.set6 (.int .i64 1) (.int .u64 (x.v.a : Int)) (.int .u64 (x.v.b : Int)) (.int .u64 (x.v.c : Int)) (.slice x.A x.v.pre.length x.c) (.slice none 0 0))
        replace H6 := Lib.hid (six_ne H6.out hne.symm (.int .i64 1) (.int .u64 (x.v.a : Int)) (.int .u64 (x.v.b : Int)) (.int .u64 (x.v.c : Int)) (.slice x.A x.v.pre.length x.c) (.slice none 0 0))
        clear hb hHeld z1 z2 s0 s1 s2 s3 s4 s5
        change K _ (Span.set6 wq41 (W1.heap.size) (.int .i64 1) (.int .u64 (x.v.a : Int)) (.int .u64 (x.v.b : Int)) (.int .u64 (x.v.c : Int)) (.slice x.A x.v.pre.length x.c) (.slice none 0 0))
        generalize Span.set6 wq41 (W1.heap.size) (.int .i64 1) (.int .u64 (x.v.a : Int)) (.int .u64 (x.v.b : Int)) (.int .u64 (x.v.c : Int)) (.slice x.A x.v.pre.length x.c) (.slice none 0 0) = wq42 at HB HR HL HH H5 H6 ⊢
        refine hK.out _ _ HR.out (fun hHeld => ?_)
        clear hK K
        try simp only [Act.put, List.setIfInBounds_toArray, List.set_cons_zero, List.set_cons_succ]
        refine wpAnyH_ready (rs := [9]) (by kernel_rfl) (by simp) ?_
        refine AllReadyH.cons (o := { dst := none, op := Op.store 41 (Operand.tmp 6) (Operand.tmp 14), type := 0, pos := _, after := _, guard := none }) rfl (fun K hK => ?_) AllReadyH.nil
        obtain ⟨z1, z2, s0, s1, s2, s3, s4, s5⟩ := H6.out
        go_simp
        have hb : Below (w.heap.size + 3) wq42 (Span.set6 wq42 (wq29.heap.size) (.int .i64 2) (.int .u64 (x.v.a : Int)) (.int .u64 (x.v.b : Int)) (.int .u64 (x.v.c : Int)) (.slice x.A x.v.pre.length x.c) (.slice none 0 0)) := below_set6 (Below.refl _ _) (by omega) (.int .i64 2) (.int .u64 (x.v.a : Int)) (.int .u64 (x.v.b : Int)) (.int .u64 (x.v.c : Int)) (.slice x.A x.v.pre.length x.c) (.slice none 0 0)
        replace HB : Hid (Below w.heap.size w (Span.set6 wq42 (wq29.heap.size) (.int .i64 2) (.int .u64 (x.v.a : Int)) (.int .u64 (x.v.b : Int)) (.int .u64 (x.v.c : Int)) (.slice x.A x.v.pre.length x.c) (.slice none 0 0))) := below_set6 HB.out (by omega) (.int .i64 2) (.int .u64 (x.v.a : Int)) (.int .u64 (x.v.b : Int)) (.int .u64 (x.v.c : Int)) (.slice x.A x.v.pre.length x.c) (.slice none 0 0)
        replace HR := Lib.hid (HR.out.kept hb (by omega))
        replace HL := Lib.hid (HL.out.kept hb (by omega))
        replace HH := Lib.hid (HH.out.kept hb (by omega))
        replace H6 := Lib.hid (H6.out.set6 (.int .i64 2) (.int .u64 (x.v.a : Int)) (.int .u64 (x.v.b : Int)) (.int .u64 (x.v.c : Int)) (.slice x.A x.v.pre.length x.c) (.slice none 0 0))
        replace H5 := Lib.hid (six_ne H5.out hne (.int .i64 2) (.int .u64 (x.v.a : Int)) (.int .u64 (x.v.b : Int)) (.int .u64 (x.v.c : Int)) (.slice x.A x.v.pre.length x.c) (.slice none 0 0))
        clear hb hHeld z1 z2 s0 s1 s2 s3 s4 s5
        change K _ (Span.set6 wq42 (wq29.heap.size) (.int .i64 2) (.int .u64 (x.v.a : Int)) (.int .u64 (x.v.b : Int)) (.int .u64 (x.v.c : Int)) (.slice x.A x.v.pre.length x.c) (.slice none 0 0))
        generalize Span.set6 wq42 (wq29.heap.size) (.int .i64 2) (.int .u64 (x.v.a : Int)) (.int .u64 (x.v.b : Int)) (.int .u64 (x.v.c : Int)) (.slice x.A x.v.pre.length x.c) (.slice none 0 0) = wq43 at HB HR HL HH H5 H6 ⊢
        refine hK.out _ _ HR.out (fun hHeld => ?_)
        clear hK K
        try simp only [Act.put, List.setIfInBounds_toArray, List.set_cons_zero, List.set_cons_succ]
        refine wpAnyH_done (by kernel_rfl) ?_ _
        go_wp2
        go_meet
        exact ⟨_, _, rfl, rfl, H5.out, H6.out, HR.out, HL.out, HH.out, HB.out⟩
    · go_simp
      have hb : Below W1.heap.size W1 (W1.alloc (.cells #[.int .i64 0, .int .u64 0, .int .u64 0, .int .u64 0, .slice none 0 0, .slice none 0 0] 41)) := (Below.refl _ _).alloc (Nat.le_refl _) _
      have hp6 : w.heap.size + 2 < W1.heap.size := HH.out.1
      replace HB : Hid (Below w.heap.size w (W1.alloc (.cells #[.int .i64 0, .int .u64 0, .int .u64 0, .int .u64 0, .slice none 0 0, .slice none 0 0] 41))) := HB.out.trans (hb.mono HB.out.size)
      replace HR := Lib.hid (HR.out.kept hb HR.out.1)
      replace HL := Lib.hid (HL.out.kept hb HL.out.1)
      replace HH := Lib.hid (HH.out.kept hb HH.out.1)
      have H6 : Hid (At6B (W1.alloc (.cells #[.int .i64 0, .int .u64 0, .int .u64 0, .int .u64 0, .slice none 0 0, .slice none 0 0] 41)) W1.heap.size (.int .i64 0) (.int .u64 0) (.int .u64 0) (.int .u64 0) (.slice none 0 0) (.slice none 0 0)) := At6B.new _ _ _ _ _ _ _ _
      clear hb hHeld
      generalize (W1.alloc (.cells #[.int .i64 0, .int .u64 0, .int .u64 0, .int .u64 0, .slice none 0 0, .slice none 0 0] 41)) = wq44 at HB HR HL HH H6 ⊢
      refine hK.out _ _ HR.out (fun hHeld => ?_)
      clear hK K
      try simp only [Act.put, List.setIfInBounds_toArray, List.set_cons_zero, List.set_cons_succ]
      refine wpAnyH_ready (rs := [2, 6]) (by kernel_rfl) (by simp) ?_
      refine AllReadyH.cons (o := { dst := some 11, op := Op.call { callee := Callee.value (Operand.func 96), args := #[Operand.const (Value.int IntKind.i64 1), Operand.tmp 10], argTypes := #[3, 25] }, type := 41, pos := _, after := _, guard := none }) rfl (fun K hK => ?_) (AllReadyH.cons (o := { dst := some 5, op := Op.alloc 41, type := 0, pos := _, after := _, guard := none }) rfl (fun K hK => ?_) AllReadyH.nil)
      · go_simp
        refine (ncut_any 1 x.v x.A x.c x.B x.d _).mono ?_
        rintro e wq45 ⟨rfl, hb⟩
        replace HB : Hid (Below w.heap.size w wq45) := HB.out.trans (hb.mono HB.out.size)
        replace HR := Lib.hid (HR.out.kept hb HR.out.1)
        replace HL := Lib.hid (HL.out.kept hb HL.out.1)
        replace HH := Lib.hid (HH.out.kept hb HH.out.1)
        replace H6 := Lib.hid (H6.out.kept hb H6.out.1)
        clear hb hHeld
        refine hK.out _ _ HR.out (fun hHeld => ?_)
        clear hK K
        try simp only [Act.put, List.setIfInBounds_toArray, List.set_cons_zero, List.set_cons_succ]
        refine wpAnyH_ready (rs := [5, 6]) (by kernel_rfl) (by simp) ?_
        refine AllReadyH.cons (o := { dst := some 14, op := Op.call { callee := Callee.value (Operand.func 96), args := #[Operand.const (Value.int IntKind.i64 2), Operand.tmp 13], argTypes := #[3, 25] }, type := 41, pos := _, after := _, guard := none }) rfl (fun K hK => ?_) (AllReadyH.cons (o := { dst := some 5, op := Op.alloc 41, type := 0, pos := _, after := _, guard := none }) rfl (fun K hK => ?_) AllReadyH.nil)
        · go_simp
          refine (ncut_any 2 x.v x.A x.c x.B x.d _).mono ?_
          rintro e wq46 ⟨rfl, hb⟩
          replace HB : Hid (Below w.heap.size w wq46) := HB.out.trans (hb.mono HB.out.size)
          replace HR := Lib.hid (HR.out.kept hb HR.out.1)
          replace HL := Lib.hid (HL.out.kept hb HL.out.1)
          replace HH := Lib.hid (HH.out.kept hb HH.out.1)
          replace H6 := Lib.hid (H6.out.kept hb H6.out.1)
          clear hb hHeld
          refine hK.out _ _ HR.out (fun hHeld => ?_)
          clear hK K
          try simp only [Act.put, List.setIfInBounds_toArray, List.set_cons_zero, List.set_cons_succ]
          refine wpAnyH_ready (rs := [6]) (by kernel_rfl) (by simp) ?_
          refine AllReadyH.cons (o := { dst := some 5, op := Op.alloc 41, type := 0, pos := _, after := _, guard := none }) rfl (fun K hK => ?_) AllReadyH.nil
          go_simp
          have hb : Below wq46.heap.size wq46 (wq46.alloc (.cells #[.int .i64 0, .int .u64 0, .int .u64 0, .int .u64 0, .slice none 0 0, .slice none 0 0] 41)) := (Below.refl _ _).alloc (Nat.le_refl _) _
          have hne : wq46.heap.size ≠ W1.heap.size := Nat.ne_of_gt H6.out.1
          have hp5 : w.heap.size + 2 < wq46.heap.size := HH.out.1
          replace HB : Hid (Below w.heap.size w (wq46.alloc (.cells #[.int .i64 0, .int .u64 0, .int .u64 0, .int .u64 0, .slice none 0 0, .slice none 0 0] 41))) := HB.out.trans (hb.mono HB.out.size)
          replace HR := Lib.hid (HR.out.kept hb HR.out.1)
          replace HL := Lib.hid (HL.out.kept hb HL.out.1)
          replace HH := Lib.hid (HH.out.kept hb HH.out.1)
          replace H6 := Lib.hid (H6.out.kept hb H6.out.1)
          have H5 : Hid (At6B (wq46.alloc (.cells #[.int .i64 0, .int .u64 0, .int .u64 0, .int .u64 0, .slice none 0 0, .slice none 0 0] 41)) wq46.heap.size (.int .i64 0) (.int .u64 0) (.int .u64 0) (.int .u64 0) (.slice none 0 0) (.slice none 0 0)) := At6B.new _ _ _ _ _ _ _ _
          clear hb hHeld
          generalize (wq46.alloc (.cells #[.int .i64 0, .int .u64 0, .int .u64 0, .int .u64 0, .slice none 0 0, .slice none 0 0] 41)) = wq47 at HB HR HL HH H6 H5 ⊢
          refine hK.out _ _ HR.out (fun hHeld => ?_)
          clear hK K
          try simp only [Act.put, List.setIfInBounds_toArray, List.set_cons_zero, List.set_cons_succ]
          refine wpAnyH_ready (rs := [8]) (by kernel_rfl) (by simp) ?_
          refine AllReadyH.cons (o := { dst := none, op := Op.store 41 (Operand.tmp 5) (Operand.tmp 11), type := 0, pos := _, after := _, guard := none }) rfl (fun K hK => ?_) AllReadyH.nil
          obtain ⟨z1, z2, s0, s1, s2, s3, s4, s5⟩ := H5.out
          go_simp
          have hb : Below (w.heap.size + 3) wq47 (Span.set6 wq47 (wq46.heap.size) (.int .i64 1) (.int .u64 (x.v.a : Int)) (.int .u64 (x.v.b : Int)) (.int .u64 (x.v.c : Int)) (.slice x.A x.v.pre.length x.c) (.slice none 0 0)) := below_set6 (Below.refl _ _) (by omega) (.int .i64 1) (.int .u64 (x.v.a : Int)) (.int .u64 (x.v.b : Int)) (.int .u64 (x.v.c : Int)) (.slice x.A x.v.pre.length x.c) (.slice none 0 0)
          replace HB : Hid (Below w.heap.size w (Span.set6 wq47 (wq46.heap.size) (.int .i64 1) (.int .u64 (x.v.a : Int)) (.int .u64 (x.v.b : Int)) (.int .u64 (x.v.c : Int)) (.slice x.A x.v.pre.length x.c) (.slice none 0 0))) := below_set6 HB.out (by omega) (.int .i64 1) (.int .u64 (x.v.a : Int)) (.int .u64 (x.v.b : Int)) (.int .u64 (x.v.c : Int)) (.slice x.A x.v.pre.length x.c) (.slice none 0 0)
          replace HR := Lib.hid (HR.out.kept hb (by omega))
          replace HL := Lib.hid (HL.out.kept hb (by omega))
          replace HH := Lib.hid (HH.out.kept hb (by omega))
          replace H5 := Lib.hid (H5.out.set6 (.int .i64 1) (.int .u64 (x.v.a : Int)) (.int .u64 (x.v.b : Int)) (.int .u64 (x.v.c : Int)) (.slice x.A x.v.pre.length x.c) (.slice none 0 0))
          replace H6 := Lib.hid (six_ne H6.out hne.symm (.int .i64 1) (.int .u64 (x.v.a : Int)) (.int .u64 (x.v.b : Int)) (.int .u64 (x.v.c : Int)) (.slice x.A x.v.pre.length x.c) (.slice none 0 0))
          clear hb hHeld z1 z2 s0 s1 s2 s3 s4 s5
          change K _ (Span.set6 wq47 (wq46.heap.size) (.int .i64 1) (.int .u64 (x.v.a : Int)) (.int .u64 (x.v.b : Int)) (.int .u64 (x.v.c : Int)) (.slice x.A x.v.pre.length x.c) (.slice none 0 0))
          generalize Span.set6 wq47 (wq46.heap.size) (.int .i64 1) (.int .u64 (x.v.a : Int)) (.int .u64 (x.v.b : Int)) (.int .u64 (x.v.c : Int)) (.slice x.A x.v.pre.length x.c) (.slice none 0 0) = wq48 at HB HR HL HH H5 H6 ⊢
          refine hK.out _ _ HR.out (fun hHeld => ?_)
          clear hK K
          try simp only [Act.put, List.setIfInBounds_toArray, List.set_cons_zero, List.set_cons_succ]
          refine wpAnyH_ready (rs := [9]) (by kernel_rfl) (by simp) ?_
          refine AllReadyH.cons (o := { dst := none, op := Op.store 41 (Operand.tmp 6) (Operand.tmp 14), type := 0, pos := _, after := _, guard := none }) rfl (fun K hK => ?_) AllReadyH.nil
          obtain ⟨z1, z2, s0, s1, s2, s3, s4, s5⟩ := H6.out
          go_simp
          have hb : Below (w.heap.size + 3) wq48 (Span.set6 wq48 (W1.heap.size) (.int .i64 2) (.int .u64 (x.v.a : Int)) (.int .u64 (x.v.b : Int)) (.int .u64 (x.v.c : Int)) (.slice x.A x.v.pre.length x.c) (.slice none 0 0)) := below_set6 (Below.refl _ _) (by omega) (.int .i64 2) (.int .u64 (x.v.a : Int)) (.int .u64 (x.v.b : Int)) (.int .u64 (x.v.c : Int)) (.slice x.A x.v.pre.length x.c) (.slice none 0 0)
          replace HB : Hid (Below w.heap.size w (Span.set6 wq48 (W1.heap.size) (.int .i64 2) (.int .u64 (x.v.a : Int)) (.int .u64 (x.v.b : Int)) (.int .u64 (x.v.c : Int)) (.slice x.A x.v.pre.length x.c) (.slice none 0 0))) := below_set6 HB.out (by omega) (.int .i64 2) (.int .u64 (x.v.a : Int)) (.int .u64 (x.v.b : Int)) (.int .u64 (x.v.c : Int)) (.slice x.A x.v.pre.length x.c) (.slice none 0 0)
          replace HR := Lib.hid (HR.out.kept hb (by omega))
          replace HL := Lib.hid (HL.out.kept hb (by omega))
          replace HH := Lib.hid (HH.out.kept hb (by omega))
          replace H6 := Lib.hid (H6.out.set6 (.int .i64 2) (.int .u64 (x.v.a : Int)) (.int .u64 (x.v.b : Int)) (.int .u64 (x.v.c : Int)) (.slice x.A x.v.pre.length x.c) (.slice none 0 0))
          replace H5 := Lib.hid (six_ne H5.out hne (.int .i64 2) (.int .u64 (x.v.a : Int)) (.int .u64 (x.v.b : Int)) (.int .u64 (x.v.c : Int)) (.slice x.A x.v.pre.length x.c) (.slice none 0 0))
          clear hb hHeld z1 z2 s0 s1 s2 s3 s4 s5
          change K _ (Span.set6 wq48 (W1.heap.size) (.int .i64 2) (.int .u64 (x.v.a : Int)) (.int .u64 (x.v.b : Int)) (.int .u64 (x.v.c : Int)) (.slice x.A x.v.pre.length x.c) (.slice none 0 0))
          generalize Span.set6 wq48 (W1.heap.size) (.int .i64 2) (.int .u64 (x.v.a : Int)) (.int .u64 (x.v.b : Int)) (.int .u64 (x.v.c : Int)) (.slice x.A x.v.pre.length x.c) (.slice none 0 0) = wq49 at HB HR HL HH H5 H6 ⊢
          refine hK.out _ _ HR.out (fun hHeld => ?_)
          clear hK K
          try simp only [Act.put, List.setIfInBounds_toArray, List.set_cons_zero, List.set_cons_succ]
          refine wpAnyH_done (by kernel_rfl) ?_ _
          go_wp2
          go_meet
          exact ⟨_, _, rfl, rfl, H5.out, H6.out, HR.out, HL.out, HH.out, HB.out⟩
        · go_simp
          have hb : Below wq45.heap.size wq45 (wq45.alloc (.cells #[.int .i64 0, .int .u64 0, .int .u64 0, .int .u64 0, .slice none 0 0, .slice none 0 0] 41)) := (Below.refl _ _).alloc (Nat.le_refl _) _
          have hne : wq45.heap.size ≠ W1.heap.size := Nat.ne_of_gt H6.out.1
          have hp5 : w.heap.size + 2 < wq45.heap.size := HH.out.1
          replace HB : Hid (Below w.heap.size w (wq45.alloc (.cells #[.int .i64 0, .int .u64 0, .int .u64 0, .int .u64 0, .slice none 0 0, .slice none 0 0] 41))) := HB.out.trans (hb.mono HB.out.size)
          replace HR := Lib.hid (HR.out.kept hb HR.out.1)
          replace HL := Lib.hid (HL.out.kept hb HL.out.1)
          replace HH := Lib.hid (HH.out.kept hb HH.out.1)
          replace H6 := Lib.hid (H6.out.kept hb H6.out.1)
          have H5 : Hid (At6B (wq45.alloc (.cells #[.int .i64 0, .int .u64 0, .int .u64 0, .int .u64 0, .slice none 0 0, .slice none 0 0] 41)) wq45.heap.size (.int .i64 0) (.int .u64 0) (.int .u64 0) (.int .u64 0) (.slice none 0 0) (.slice none 0 0)) := At6B.new _ _ _ _ _ _ _ _
          clear hb hHeld
          generalize (wq45.alloc (.cells #[.int .i64 0, .int .u64 0, .int .u64 0, .int .u64 0, .slice none 0 0, .slice none 0 0] 41)) = wq50 at HB HR HL HH H6 H5 ⊢
          refine hK.out _ _ HR.out (fun hHeld => ?_)
          clear hK K
          try simp only [Act.put, List.setIfInBounds_toArray, List.set_cons_zero, List.set_cons_succ]
          refine wpAnyH_ready (rs := [5]) (by kernel_rfl) (by simp) ?_
          refine AllReadyH.cons (o := { dst := some 14, op := Op.call { callee := Callee.value (Operand.func 96), args := #[Operand.const (Value.int IntKind.i64 2), Operand.tmp 13], argTypes := #[3, 25] }, type := 41, pos := _, after := _, guard := none }) rfl (fun K hK => ?_) AllReadyH.nil
          go_simp
          refine (ncut_any 2 x.v x.A x.c x.B x.d _).mono ?_
          rintro e wq51 ⟨rfl, hb⟩
          replace HB : Hid (Below w.heap.size w wq51) := HB.out.trans (hb.mono HB.out.size)
          replace HR := Lib.hid (HR.out.kept hb HR.out.1)
          replace HL := Lib.hid (HL.out.kept hb HL.out.1)
          replace HH := Lib.hid (HH.out.kept hb HH.out.1)
          replace H5 := Lib.hid (H5.out.kept hb H5.out.1)
          replace H6 := Lib.hid (H6.out.kept hb H6.out.1)
          clear hb hHeld
          refine hK.out _ _ HR.out (fun hHeld => ?_)
          clear hK K
          try simp only [Act.put, List.setIfInBounds_toArray, List.set_cons_zero, List.set_cons_succ]
          refine wpAnyH_ready (rs := [8]) (by kernel_rfl) (by simp) ?_
          refine AllReadyH.cons (o := { dst := none, op := Op.store 41 (Operand.tmp 5) (Operand.tmp 11), type := 0, pos := _, after := _, guard := none }) rfl (fun K hK => ?_) AllReadyH.nil
          obtain ⟨z1, z2, s0, s1, s2, s3, s4, s5⟩ := H5.out
          go_simp
          have hb : Below (w.heap.size + 3) wq51 (Span.set6 wq51 (wq45.heap.size) (.int .i64 1) (.int .u64 (x.v.a : Int)) (.int .u64 (x.v.b : Int)) (.int .u64 (x.v.c : Int)) (.slice x.A x.v.pre.length x.c) (.slice none 0 0)) := below_set6 (Below.refl _ _) (by omega) (.int .i64 1) (.int .u64 (x.v.a : Int)) (.int .u64 (x.v.b : Int)) (.int .u64 (x.v.c : Int)) (.slice x.A x.v.pre.length x.c) (.slice none 0 0)
          replace HB : Hid (Below w.heap.size w (Span.set6 wq51 (wq45.heap.size) (.int .i64 1) (.int .u64 (x.v.a : Int)) (.int .u64 (x.v.b : Int)) (.int .u64 (x.v.c : Int)) (.slice x.A x.v.pre.length x.c) (.slice none 0 0))) := below_set6 HB.out (by omega) (.int .i64 1) (.int .u64 (x.v.a : Int)) (.int .u64 (x.v.b : Int)) (.int .u64 (x.v.c : Int)) (.slice x.A x.v.pre.length x.c) (.slice none 0 0)
          replace HR := Lib.hid (HR.out.kept hb (by omega))
          replace HL := Lib.hid (HL.out.kept hb (by omega))
          replace HH := Lib.hid (HH.out.kept hb (by omega))
          replace H5 := Lib.hid (H5.out.set6 (.int .i64 1) (.int .u64 (x.v.a : Int)) (.int .u64 (x.v.b : Int)) (.int .u64 (x.v.c : Int)) (.slice x.A x.v.pre.length x.c) (.slice none 0 0))
          replace H6 := Lib.hid (six_ne H6.out hne.symm (.int .i64 1) (.int .u64 (x.v.a : Int)) (.int .u64 (x.v.b : Int)) (.int .u64 (x.v.c : Int)) (.slice x.A x.v.pre.length x.c) (.slice none 0 0))
          clear hb hHeld z1 z2 s0 s1 s2 s3 s4 s5
          change K _ (Span.set6 wq51 (wq45.heap.size) (.int .i64 1) (.int .u64 (x.v.a : Int)) (.int .u64 (x.v.b : Int)) (.int .u64 (x.v.c : Int)) (.slice x.A x.v.pre.length x.c) (.slice none 0 0))
          generalize Span.set6 wq51 (wq45.heap.size) (.int .i64 1) (.int .u64 (x.v.a : Int)) (.int .u64 (x.v.b : Int)) (.int .u64 (x.v.c : Int)) (.slice x.A x.v.pre.length x.c) (.slice none 0 0) = wq52 at HB HR HL HH H5 H6 ⊢
          refine hK.out _ _ HR.out (fun hHeld => ?_)
          clear hK K
          try simp only [Act.put, List.setIfInBounds_toArray, List.set_cons_zero, List.set_cons_succ]
          refine wpAnyH_ready (rs := [9]) (by kernel_rfl) (by simp) ?_
          refine AllReadyH.cons (o := { dst := none, op := Op.store 41 (Operand.tmp 6) (Operand.tmp 14), type := 0, pos := _, after := _, guard := none }) rfl (fun K hK => ?_) AllReadyH.nil
          obtain ⟨z1, z2, s0, s1, s2, s3, s4, s5⟩ := H6.out
          go_simp
          have hb : Below (w.heap.size + 3) wq52 (Span.set6 wq52 (W1.heap.size) (.int .i64 2) (.int .u64 (x.v.a : Int)) (.int .u64 (x.v.b : Int)) (.int .u64 (x.v.c : Int)) (.slice x.A x.v.pre.length x.c) (.slice none 0 0)) := below_set6 (Below.refl _ _) (by omega) (.int .i64 2) (.int .u64 (x.v.a : Int)) (.int .u64 (x.v.b : Int)) (.int .u64 (x.v.c : Int)) (.slice x.A x.v.pre.length x.c) (.slice none 0 0)
          replace HB : Hid (Below w.heap.size w (Span.set6 wq52 (W1.heap.size) (.int .i64 2) (.int .u64 (x.v.a : Int)) (.int .u64 (x.v.b : Int)) (.int .u64 (x.v.c : Int)) (.slice x.A x.v.pre.length x.c) (.slice none 0 0))) := below_set6 HB.out (by omega) (.int .i64 2) (.int .u64 (x.v.a : Int)) (.int .u64 (x.v.b : Int)) (.int .u64 (x.v.c : Int)) (.slice x.A x.v.pre.length x.c) (.slice none 0 0)
          replace HR := Lib.hid (HR.out.kept hb (by omega))
          replace HL := Lib.hid (HL.out.kept hb (by omega))
          replace HH := Lib.hid (HH.out.kept hb (by omega))
          replace H6 := Lib.hid (H6.out.set6 (.int .i64 2) (.int .u64 (x.v.a : Int)) (.int .u64 (x.v.b : Int)) (.int .u64 (x.v.c : Int)) (.slice x.A x.v.pre.length x.c) (.slice none 0 0))
          replace H5 := Lib.hid (six_ne H5.out hne (.int .i64 2) (.int .u64 (x.v.a : Int)) (.int .u64 (x.v.b : Int)) (.int .u64 (x.v.c : Int)) (.slice x.A x.v.pre.length x.c) (.slice none 0 0))
          clear hb hHeld z1 z2 s0 s1 s2 s3 s4 s5
          change K _ (Span.set6 wq52 (W1.heap.size) (.int .i64 2) (.int .u64 (x.v.a : Int)) (.int .u64 (x.v.b : Int)) (.int .u64 (x.v.c : Int)) (.slice x.A x.v.pre.length x.c) (.slice none 0 0))
          generalize Span.set6 wq52 (W1.heap.size) (.int .i64 2) (.int .u64 (x.v.a : Int)) (.int .u64 (x.v.b : Int)) (.int .u64 (x.v.c : Int)) (.slice x.A x.v.pre.length x.c) (.slice none 0 0) = wq53 at HB HR HL HH H5 H6 ⊢
          refine hK.out _ _ HR.out (fun hHeld => ?_)
          clear hK K
          try simp only [Act.put, List.setIfInBounds_toArray, List.set_cons_zero, List.set_cons_succ]
          refine wpAnyH_done (by kernel_rfl) ?_ _
          go_wp2
          go_meet
          exact ⟨_, _, rfl, rfl, H5.out, H6.out, HR.out, HL.out, HH.out, HB.out⟩
      · go_simp
        have hb : Below wq44.heap.size wq44 (wq44.alloc (.cells #[.int .i64 0, .int .u64 0, .int .u64 0, .int .u64 0, .slice none 0 0, .slice none 0 0] 41)) := (Below.refl _ _).alloc (Nat.le_refl _) _
        have hne : wq44.heap.size ≠ W1.heap.size := Nat.ne_of_gt H6.out.1
        have hp5 : w.heap.size + 2 < wq44.heap.size := HH.out.1
        replace HB : Hid (Below w.heap.size w (wq44.alloc (.cells #[.int .i64 0, .int .u64 0, .int .u64 0, .int .u64 0, .slice none 0 0, .slice none 0 0] 41))) := HB.out.trans (hb.mono HB.out.size)
        replace HR := Lib.hid (HR.out.kept hb HR.out.1)
        replace HL := Lib.hid (HL.out.kept hb HL.out.1)
        replace HH := Lib.hid (HH.out.kept hb HH.out.1)
        replace H6 := Lib.hid (H6.out.kept hb H6.out.1)
        have H5 : Hid (At6B (wq44.alloc (.cells #[.int .i64 0, .int .u64 0, .int .u64 0, .int .u64 0, .slice none 0 0, .slice none 0 0] 41)) wq44.heap.size (.int .i64 0) (.int .u64 0) (.int .u64 0) (.int .u64 0) (.slice none 0 0) (.slice none 0 0)) := At6B.new _ _ _ _ _ _ _ _
        clear hb hHeld
        generalize (wq44.alloc (.cells #[.int .i64 0, .int .u64 0, .int .u64 0, .int .u64 0, .slice none 0 0, .slice none 0 0] 41)) = wq54 at HB HR HL HH H6 H5 ⊢
        refine hK.out _ _ HR.out (fun hHeld => ?_)
        clear hK K
        try simp only [Act.put, List.setIfInBounds_toArray, List.set_cons_zero, List.set_cons_succ]
        refine wpAnyH_ready (rs := [2]) (by kernel_rfl) (by simp) ?_
        refine AllReadyH.cons (o := { dst := some 11, op := Op.call { callee := Callee.value (Operand.func 96), args := #[Operand.const (Value.int IntKind.i64 1), Operand.tmp 10], argTypes := #[3, 25] }, type := 41, pos := _, after := _, guard := none }) rfl (fun K hK => ?_) AllReadyH.nil
        go_simp
        refine (ncut_any 1 x.v x.A x.c x.B x.d _).mono ?_
        rintro e wq55 ⟨rfl, hb⟩
        replace HB : Hid (Below w.heap.size w wq55) := HB.out.trans (hb.mono HB.out.size)
        replace HR := Lib.hid (HR.out.kept hb HR.out.1)
        replace HL := Lib.hid (HL.out.kept hb HL.out.1)
        replace HH := Lib.hid (HH.out.kept hb HH.out.1)
        replace H5 := Lib.hid (H5.out.kept hb H5.out.1)
        replace H6 := Lib.hid (H6.out.kept hb H6.out.1)
        clear hb hHeld
        refine hK.out _ _ HR.out (fun hHeld => ?_)
        clear hK K
        try simp only [Act.put, List.setIfInBounds_toArray, List.set_cons_zero, List.set_cons_succ]
        refine wpAnyH_ready (rs := [5]) (by kernel_rfl) (by simp) ?_
        refine AllReadyH.cons (o := { dst := some 14, op := Op.call { callee := Callee.value (Operand.func 96), args := #[Operand.const (Value.int IntKind.i64 2), Operand.tmp 13], argTypes := #[3, 25] }, type := 41, pos := _, after := _, guard := none }) rfl (fun K hK => ?_) AllReadyH.nil
        go_simp
        refine (ncut_any 2 x.v x.A x.c x.B x.d _).mono ?_
        rintro e wq56 ⟨rfl, hb⟩
        replace HB : Hid (Below w.heap.size w wq56) := HB.out.trans (hb.mono HB.out.size)
        replace HR := Lib.hid (HR.out.kept hb HR.out.1)
        replace HL := Lib.hid (HL.out.kept hb HL.out.1)
        replace HH := Lib.hid (HH.out.kept hb HH.out.1)
        replace H5 := Lib.hid (H5.out.kept hb H5.out.1)
        replace H6 := Lib.hid (H6.out.kept hb H6.out.1)
        clear hb hHeld
        refine hK.out _ _ HR.out (fun hHeld => ?_)
        clear hK K
        try simp only [Act.put, List.setIfInBounds_toArray, List.set_cons_zero, List.set_cons_succ]
        refine wpAnyH_ready (rs := [8]) (by kernel_rfl) (by simp) ?_
        refine AllReadyH.cons (o := { dst := none, op := Op.store 41 (Operand.tmp 5) (Operand.tmp 11), type := 0, pos := _, after := _, guard := none }) rfl (fun K hK => ?_) AllReadyH.nil
        obtain ⟨z1, z2, s0, s1, s2, s3, s4, s5⟩ := H5.out
        go_simp
        have hb : Below (w.heap.size + 3) wq56 (Span.set6 wq56 (wq44.heap.size) (.int .i64 1) (.int .u64 (x.v.a : Int)) (.int .u64 (x.v.b : Int)) (.int .u64 (x.v.c : Int)) (.slice x.A x.v.pre.length x.c) (.slice none 0 0)) := below_set6 (Below.refl _ _) (by omega) (.int .i64 1) (.int .u64 (x.v.a : Int)) (.int .u64 (x.v.b : Int)) (.int .u64 (x.v.c : Int)) (.slice x.A x.v.pre.length x.c) (.slice none 0 0)
        replace HB : Hid (Below w.heap.size w (Span.set6 wq56 (wq44.heap.size) (.int .i64 1) (.int .u64 (x.v.a : Int)) (.int .u64 (x.v.b : Int)) (.int .u64 (x.v.c : Int)) (.slice x.A x.v.pre.length x.c) (.slice none 0 0))) := below_set6 HB.out (by omega) (.int .i64 1) (.int .u64 (x.v.a : Int)) (.int .u64 (x.v.b : Int)) (.int .u64 (x.v.c : Int)) (.slice x.A x.v.pre.length x.c) (.slice none 0 0)
        replace HR := Lib.hid (HR.out.kept hb (by omega))
        replace HL := Lib.hid (HL.out.kept hb (by omega))
        replace HH := Lib.hid (HH.out.kept hb (by omega))
        replace H5 := Lib.hid (H5.out.set6 (.int .i64 1) (.int .u64 (x.v.a : Int)) (.int .u64 (x.v.b : Int)) (.int .u64 (x.v.c : Int)) (.slice x.A x.v.pre.length x.c) (.slice none 0 0))
        replace H6 := Lib.hid (six_ne H6.out hne.symm (.int .i64 1) (.int .u64 (x.v.a : Int)) (.int .u64 (x.v.b : Int)) (.int .u64 (x.v.c : Int)) (.slice x.A x.v.pre.length x.c) (.slice none 0 0))
        clear hb hHeld z1 z2 s0 s1 s2 s3 s4 s5
        change K _ (Span.set6 wq56 (wq44.heap.size) (.int .i64 1) (.int .u64 (x.v.a : Int)) (.int .u64 (x.v.b : Int)) (.int .u64 (x.v.c : Int)) (.slice x.A x.v.pre.length x.c) (.slice none 0 0))
        generalize Span.set6 wq56 (wq44.heap.size) (.int .i64 1) (.int .u64 (x.v.a : Int)) (.int .u64 (x.v.b : Int)) (.int .u64 (x.v.c : Int)) (.slice x.A x.v.pre.length x.c) (.slice none 0 0) = wq57 at HB HR HL HH H5 H6 ⊢
        refine hK.out _ _ HR.out (fun hHeld => ?_)
        clear hK K
        try simp only [Act.put, List.setIfInBounds_toArray, List.set_cons_zero, List.set_cons_succ]
        refine wpAnyH_ready (rs := [9]) (by kernel_rfl) (by simp) ?_
        refine AllReadyH.cons (o := { dst := none, op := Op.store 41 (Operand.tmp 6) (Operand.tmp 14), type := 0, pos := _, after := _, guard := none }) rfl (fun K hK => ?_) AllReadyH.nil
        obtain ⟨z1, z2, s0, s1, s2, s3, s4, s5⟩ := H6.out
        go_simp
        have hb : Below (w.heap.size + 3) wq57 (Span.set6 wq57 (W1.heap.size) (.int .i64 2) (.int .u64 (x.v.a : Int)) (.int .u64 (x.v.b : Int)) (.int .u64 (x.v.c : Int)) (.slice x.A x.v.pre.length x.c) (.slice none 0 0)) := below_set6 (Below.refl _ _) (by omega) (.int .i64 2) (.int .u64 (x.v.a : Int)) (.int .u64 (x.v.b : Int)) (.int .u64 (x.v.c : Int)) (.slice x.A x.v.pre.length x.c) (.slice none 0 0)
        replace HB : Hid (Below w.heap.size w (Span.set6 wq57 (W1.heap.size) (.int .i64 2) (.int .u64 (x.v.a : Int)) (.int .u64 (x.v.b : Int)) (.int .u64 (x.v.c : Int)) (.slice x.A x.v.pre.length x.c) (.slice none 0 0))) := below_set6 HB.out (by omega) (.int .i64 2) (.int .u64 (x.v.a : Int)) (.int .u64 (x.v.b : Int)) (.int .u64 (x.v.c : Int)) (.slice x.A x.v.pre.length x.c) (.slice none 0 0)
        replace HR := Lib.hid (HR.out.kept hb (by omega))
        replace HL := Lib.hid (HL.out.kept hb (by omega))
        replace HH := Lib.hid (HH.out.kept hb (by omega))
        replace H6 := Lib.hid (H6.out.set6 (.int .i64 2) (.int .u64 (x.v.a : Int)) (.int .u64 (x.v.b : Int)) (.int .u64 (x.v.c : Int)) (.slice x.A x.v.pre.length x.c) (.slice none 0 0))
        replace H5 := Lib.hid (six_ne H5.out hne (.int .i64 2) (.int .u64 (x.v.a : Int)) (.int .u64 (x.v.b : Int)) (.int .u64 (x.v.c : Int)) (.slice x.A x.v.pre.length x.c) (.slice none 0 0))
        clear hb hHeld z1 z2 s0 s1 s2 s3 s4 s5
        change K _ (Span.set6 wq57 (W1.heap.size) (.int .i64 2) (.int .u64 (x.v.a : Int)) (.int .u64 (x.v.b : Int)) (.int .u64 (x.v.c : Int)) (.slice x.A x.v.pre.length x.c) (.slice none 0 0))
        generalize Span.set6 wq57 (W1.heap.size) (.int .i64 2) (.int .u64 (x.v.a : Int)) (.int .u64 (x.v.b : Int)) (.int .u64 (x.v.c : Int)) (.slice x.A x.v.pre.length x.c) (.slice none 0 0) = wq58 at HB HR HL HH H5 H6 ⊢
        refine hK.out _ _ HR.out (fun hHeld => ?_)
        clear hK K
        try simp only [Act.put, List.setIfInBounds_toArray, List.set_cons_zero, List.set_cons_succ]
        refine wpAnyH_done (by kernel_rfl) ?_ _
        go_wp2
        go_meet
        exact ⟨_, _, rfl, rfl, H5.out, H6.out, HR.out, HL.out, HH.out, HB.out⟩
  case rest =>
    obtain ⟨p5, p6, rfl, rfl, h5, h6, hr, hl, hh, hb⟩ := hcut
    replace HB := Lib.hid hb
    replace HR := Lib.hid hr
    replace HL := Lib.hid hl
    replace HH := Lib.hid hh
    have H5 := Lib.hid h5
    have H6 := Lib.hid h6
    have HV : Hid (SRow wc x.A x.v.pre.length x.v.pre) := HRow.out.kept HB.out
    clear hb hr hl hh h5 h6
    obtain ⟨y1, y2, c0, c1, c2, c3, c4, c5, c6⟩ := HR.out
    have hk9 : x.kind = 0 ∨ (goodV x.v = true ∧ (x.kind = 1 ∨ x.kind = 2 ∨ x.kind = 3 ∨ x.kind = 4 ∨ x.kind = 5 ∨ x.kind = 6 ∨ x.kind = 7 ∨ x.kind = 8)) := by
      rcases hk with h | ⟨h1, h2, h3⟩
      · exact .inl h
      · exact .inr ⟨h3, by omega⟩
    clear hk HG
    rcases hk9 with hk | ⟨hg, hk⟩
    rotate_left
    have HG := Lib.hid hg
    clear hg
    rcases hk with hk | hk | hk | hk | hk | hk | hk | hk
    · have hks : x.kind = 1 := hk
      rw [hks] at c0
      have HK := Lib.hid hks
      clear hk hks
      obtain ⟨_, _, a0, a1, a2, a3, a4, a5⟩ := H5.out
      obtain ⟨_, _, b0, b1, b2, b3, b4, b5⟩ := HH.out
      go_wp2_with fail
      refine (between_any ⟨1, bare x.v, x.A, x.c, none, 0⟩ rhigh _ ⟨HV.out, SRow.none_ _ _, HF.out, Fit.nil⟩ (Span.Lies.high _)).mono ?_
      intro e w3 h3
      have HS : Hid (SetIn w 2 (SetOf (.mk x.kind x.v [])) e w3) := setIn_imp (h3.mono HB.out) (fun o ho => by rw [HK.out]; exact set_span (k := 1) (by omega) (by omega) (by omega) (.inr HG.out) [] ho) (by omega)
      obtain ⟨A3, n3, cc3, out, rfl, q1, q2, q3, q4, q5, q6, q7⟩ := HS.out
      clear h3
      go_wp2
      go_ret
      exact HS.out
    · have hks : x.kind = 2 := hk
      rw [hks] at c0
      have HK := Lib.hid hks
      clear hk hks
      obtain ⟨_, _, a0, a1, a2, a3, a4, a5⟩ := H6.out
      obtain ⟨_, _, b0, b1, b2, b3, b4, b5⟩ := HH.out
      go_wp2_with fail
      refine (between_any ⟨2, bare x.v, x.A, x.c, none, 0⟩ rhigh _ ⟨HV.out, SRow.none_ _ _, HF.out, Fit.nil⟩ (Span.Lies.high _)).mono ?_
      intro e w3 h3
      have HS : Hid (SetIn w 2 (SetOf (.mk x.kind x.v [])) e w3) := setIn_imp (h3.mono HB.out) (fun o ho => by rw [HK.out]; exact set_span (k := 2) (by omega) (by omega) (by omega) (.inr HG.out) [] ho) (by omega)
      obtain ⟨A3, n3, cc3, out, rfl, q1, q2, q3, q4, q5, q6, q7⟩ := HS.out
      clear h3
      go_wp2
      go_ret
      exact HS.out
    · have hks : x.kind = 3 := hk
      rw [hks] at c0
      have HK := Lib.hid hks
      clear hk hks
      obtain ⟨_, _, a0, a1, a2, a3, a4, a5⟩ := HL.out
      obtain ⟨_, _, b0, b1, b2, b3, b4, b5⟩ := H6.out
      go_wp2_with fail
      refine (between_any rlow ⟨2, bare x.v, x.A, x.c, none, 0⟩ _ (Span.Lies.low _) ⟨HV.out, SRow.none_ _ _, HF.out, Fit.nil⟩).mono ?_
      intro e w3 h3
      have HS : Hid (SetIn w 2 (SetOf (.mk x.kind x.v [])) e w3) := setIn_imp (h3.mono HB.out) (fun o ho => by rw [HK.out]; exact set_span (k := 3) (by omega) (by omega) (by omega) (.inr HG.out) [] ho) (by omega)
      obtain ⟨A3, n3, cc3, out, rfl, q1, q2, q3, q4, q5, q6, q7⟩ := HS.out
      clear h3
      go_wp2
      go_ret
      exact HS.out
    · have hks : x.kind = 4 := hk
      rw [hks] at c0
      have HK := Lib.hid hks
      clear hk hks
      obtain ⟨_, _, a0, a1, a2, a3, a4, a5⟩ := HL.out
      obtain ⟨_, _, b0, b1, b2, b3, b4, b5⟩ := H5.out
      go_wp2_with fail
      refine (between_any rlow ⟨1, bare x.v, x.A, x.c, none, 0⟩ _ (Span.Lies.low _) ⟨HV.out, SRow.none_ _ _, HF.out, Fit.nil⟩).mono ?_
      intro e w3 h3
      have HS : Hid (SetIn w 2 (SetOf (.mk x.kind x.v [])) e w3) := setIn_imp (h3.mono HB.out) (fun o ho => by rw [HK.out]; exact set_span (k := 4) (by omega) (by omega) (by omega) (.inr HG.out) [] ho) (by omega)
      obtain ⟨A3, n3, cc3, out, rfl, q1, q2, q3, q4, q5, q6, q7⟩ := HS.out
      clear h3
      go_wp2
      go_ret
      exact HS.out
    · have hks : x.kind = 5 := hk
      rw [hks] at c0
      have HK := Lib.hid hks
      clear hk hks
      obtain ⟨_, _, a0, a1, a2, a3, a4, a5⟩ := H5.out
      obtain ⟨_, _, b0, b1, b2, b3, b4, b5⟩ := H6.out
      go_wp2_with fail
      refine (between_any ⟨1, bare x.v, x.A, x.c, none, 0⟩ ⟨2, bare x.v, x.A, x.c, none, 0⟩ _ ⟨HV.out, SRow.none_ _ _, HF.out, Fit.nil⟩ ⟨HV.out, SRow.none_ _ _, HF.out, Fit.nil⟩).mono ?_
      intro e w3 h3
      have HS : Hid (SetIn w 2 (SetOf (.mk x.kind x.v [])) e w3) := setIn_imp (h3.mono HB.out) (fun o ho => by rw [HK.out]; exact set_span (k := 5) (by omega) (by omega) (by omega) (.inr HG.out) [] ho) (by omega)
      obtain ⟨A3, n3, cc3, out, rfl, q1, q2, q3, q4, q5, q6, q7⟩ := HS.out
      clear h3
      go_wp2
      go_ret
      exact HS.out
    · have hks : x.kind = 6 := hk
      rw [hks] at c0
      have HK := Lib.hid hks
      clear hk hks
      obtain ⟨_, _, a0, a1, a2, a3, a4, a5⟩ := H5.out
      obtain ⟨_, _, b0, b1, b2, b3, b4, b5⟩ := H6.out
      go_wp2_with fail
      refine (between_any ⟨1, bare x.v, x.A, x.c, none, 0⟩ ⟨2, bare x.v, x.A, x.c, none, 0⟩ _ ⟨HV.out, SRow.none_ _ _, HF.out, Fit.nil⟩ ⟨HV.out, SRow.none_ _ _, HF.out, Fit.nil⟩).mono ?_
      rintro e w3 ⟨A3, n3, cc3, out, rfl, q1, q2, q3, q4, q5, q6, hb⟩
      have HQ1 := Lib.hid q1
      have HQ3 := Lib.hid q3
      have HB3 := Lib.hid (HB.out.trans (hb.mono HB.out.size))
      clear q1 q3 q4 q5 q6 hb a0 a1 a2 a3 a4 a5 b0 b1 b2 b3 b4 b5 c0 c1 c2 c3 c4 c5 c6
      go_wp2_with fail
      refine (not_in A3 n3 cc3 out _ HQ1.out (by omega)).mono ?_
      intro e w4 h4
      have HS : Hid (SetIn w 2 (SetOf (.mk x.kind x.v [])) e w4) := setIn_imp (h4.mono HB3.out) (fun o ho => by rw [HK.out]; exact set_ne HG.out [] HQ3.out ho) (by omega)
      obtain ⟨A4, n4, cc4, out4, rfl, q1, q2, q3, q4, q5, q6, q7⟩ := HS.out
      clear h4
      go_wp2
      go_ret
      exact HS.out
    · have hks : x.kind = 7 := hk
      rw [hks] at c0
      have HK := Lib.hid hks
      clear hk hks
      go_upto_region 17 with (fail)
      have HBd : Hid (Below w.heap.size w wc.drew) := HB.out.drew
      have HRd : Hid (RAt wc.drew w.heap.size x) := HR.out
      have H5d : Hid (At6B wc.drew p5 (.int .i64 1) (.int .u64 (x.v.a : Int)) (.int .u64 (x.v.b : Int)) (.int .u64 (x.v.c : Int)) (.slice x.A x.v.pre.length x.c) (.slice none 0 0)) := H5.out
      clear HB HR HL HH H5 H6 c0 c1 c2 c3 c4 c5 c6
      refine wp_region_held_drew (S := fun w' => RAt w' w.heap.size x ∧ At6B w' p5 (.int .i64 1) (.int .u64 (x.v.a : Int)) (.int .u64 (x.v.b : Int)) (.int .u64 (x.v.c : Int)) (.slice x.A x.v.pre.length x.c) (.slice none 0 0)) (by kernel_rfl) ⟨HRd.out, H5d.out⟩ (fun hHeld => ?_)
      refine wpAnyH_take (i := 0) (oi := { dst := some 50, op := Op.load 41 (Operand.tmp 5), type := 41, pos := _, after := _, guard := none }) (v := .agg #[.int .i64 1, .int .u64 (x.v.a : Int), .int .u64 (x.v.b : Int), .int .u64 (x.v.c : Int), .slice x.A x.v.pre.length x.c, .slice none 0 0]) rfl (by kernel_rfl) (by kernel_rfl) (by kernel_rfl) (fun _ _ _ h => h) (Or.inl ⟨by rfl, fun w' hS' => by obtain ⟨_, _, a0, a1, a2, a3, a4, a5⟩ := hS'.2; go_simp⟩) (by assumption) ?_
      simp only [Act.put, List.setIfInBounds_toArray, List.set_cons_zero, List.set_cons_succ]
      refine wpAnyH_take (i := 1) (oi := { dst := some 51, op := Op.fieldAddr 28 (Operand.tmp 1) 1, type := 0, pos := _, after := _, guard := none }) (v := .pointer (some ⟨w.heap.size, 1, none⟩)) rfl (by kernel_rfl) (by kernel_rfl) (by kernel_rfl) (fun _ _ _ h => h) (Or.inl ⟨by rfl, fun w' hS' => by go_simp⟩) (by assumption) ?_
      simp only [Act.put, List.setIfInBounds_toArray, List.set_cons_zero, List.set_cons_succ]
      refine wpAnyH_take (i := 2) (oi := { dst := some 52, op := Op.load 25 (Operand.tmp 51), type := 25, pos := _, after := _, guard := none }) (v := .agg #[.int .u64 (x.v.a : Int), .int .u64 (x.v.b : Int), .int .u64 (x.v.c : Int), .slice x.A x.v.pre.length x.c, .slice x.B x.v.build.length x.d]) rfl (by kernel_rfl) (by kernel_rfl) (by kernel_rfl) (fun _ _ _ h => h) (Or.inl ⟨by rfl, fun w' hS' => by obtain ⟨y1, y2, c0, c1, c2, c3, c4, c5, c6⟩ := hS'.1; go_simp⟩) (by assumption) ?_
      simp only [Act.put, List.setIfInBounds_toArray, List.set_cons_zero, List.set_cons_succ]
      refine wpAnyH_ready (rs := [3]) (by kernel_rfl) (by simp) ?_
      refine AllReadyH.cons (o := { dst := some 53, op := Op.call { callee := Callee.value (Operand.func 99), args := #[Operand.tmp 52], argTypes := #[25] }, type := 89, pos := _, after := _, guard := none }) rfl (fun K hK => ?_) AllReadyH.nil
      go_simp
      refine (caret_any x.v x.A x.c x.B x.d _).mono ?_
      rintro e wm1 ⟨A9, c9, rfl, hr9, hb9, hb⟩
      have HB1 := Lib.hid (HBd.out.trans (hb.mono HBd.out.size))
      have HR1 := Lib.hid (HRd.out.kept hb HRd.out.1)
      have H51 := Lib.hid (H5d.out.kept hb H5d.out.1)
      have HS9 := Lib.hid hr9
      have HZ9 := Lib.hid hb9
      clear hr9 hb9
      clear hb hHeld
      refine hK.out _ _ ⟨HR1.out, H51.out⟩ (fun hHeld => ?_)
      clear hK K
      try simp only [Act.put, List.setIfInBounds_toArray, List.set_cons_zero, List.set_cons_succ]
      refine wpAnyH_take (i := 4) (oi := { dst := some 54, op := Op.extract (Operand.tmp 53) 0, type := 25, pos := _, after := _, guard := none }) (v := .agg #[.int .u64 ((verOf (caretV x.v)).a : Int), .int .u64 ((verOf (caretV x.v)).b : Int), .int .u64 ((verOf (caretV x.v)).c : Int), .slice A9 (verOf (caretV x.v)).pre.length c9, .slice none (verOf (caretV x.v)).build.length 0]) rfl (by kernel_rfl) (by kernel_rfl) (by kernel_rfl) (fun _ _ _ h => h) (Or.inl ⟨by rfl, fun w' hS' => by go_simp⟩) (by assumption) ?_
      simp only [Act.put, List.setIfInBounds_toArray, List.set_cons_zero, List.set_cons_succ]
      refine wpAnyH_take (i := 5) (oi := { dst := some 55, op := Op.extract (Operand.tmp 53) 1, type := 4, pos := _, after := _, guard := none }) (v := .bool (caretV x.v).isSome) rfl (by kernel_rfl) (by kernel_rfl) (by kernel_rfl) (fun _ _ _ h => h) (Or.inl ⟨by rfl, fun w' hS' => by go_simp⟩) (by assumption) ?_
      simp only [Act.put, List.setIfInBounds_toArray, List.set_cons_zero, List.set_cons_succ]
      refine wpAnyH_ready (rs := [6]) (by kernel_rfl) (by simp) ?_
      refine AllReadyH.cons (o := { dst := some 56, op := Op.call { callee := Callee.value (Operand.func 98), args := #[Operand.tmp 54, Operand.tmp 55], argTypes := #[25, 4] }, type := 41, pos := _, after := _, guard := none }) rfl (fun K hK => ?_) AllReadyH.nil
      go_simp
      refine (nend_any (caretV x.v) A9 c9 _ HS9.out (end_fit _ _ _ _) HZ9.out).mono ?_
      rintro e wm2 ⟨z, rfl, hzc, hzl, hb⟩
      have HB2 := Lib.hid (HB1.out.trans (hb.mono HB1.out.size))
      have HR2 := Lib.hid (HR1.out.kept hb HR1.out.1)
      have H52 := Lib.hid (H51.out.kept hb H51.out.1)
      have HZC := Lib.hid hzc
      have HZL := Lib.hid hzl
      clear hzc hzl
      clear hb hHeld
      refine hK.out _ _ ⟨HR2.out, H52.out⟩ (fun hHeld => ?_)
      clear hK K
      try simp only [Act.put, List.setIfInBounds_toArray, List.set_cons_zero, List.set_cons_succ]
      refine wpAnyH_ready (rs := [7]) (by kernel_rfl) (by simp) ?_
      refine AllReadyH.cons (o := { dst := some 57, op := Op.call { callee := Callee.value (Operand.func 97), args := #[Operand.tmp 50, Operand.tmp 56], argTypes := #[41, 41] }, type := 31, pos := _, after := _, guard := none }) rfl (fun K hK => ?_) AllReadyH.nil
      go_simp
      refine (between_any ⟨1, bare x.v, x.A, x.c, none, 0⟩ z _ ⟨HRow.out.kept HB2.out, SRow.none_ _ _, HF.out, Fit.nil⟩ HZL.out).mono ?_
      rintro e wm3 ⟨A3, n3, cc3, out, rfl, q1, q2, q3, q4, q5, q6, hb⟩
      have HR3 := Lib.hid (HR2.out.kept hb HR2.out.1)
      have H53 := Lib.hid (H52.out.kept hb H52.out.1)
      have HB3 := Lib.hid (HB2.out.trans (hb.mono HB2.out.size))
      rw [show (RCut.mk 1 (bare x.v) x.A x.c none 0).cut = loOf 7 x.v from rfl, show z.cut = hiOf 7 x.v from HZC.out] at q3
      have HQ : Hid (SetIn w 2 (SetOf (.mk x.kind x.v [])) (.returned (.slice A3 n3 cc3)) wm3) := ⟨A3, n3, cc3, out, rfl, q1, Nat.le_trans q2 (by omega), by rw [HK.out]; exact set_span (k := 7) (by omega) (by omega) (by omega) (.inr HG.out) [] q3, fun s hs => (q4 s hs).mono HB2.out.size, q5, q6, HB3.out⟩
      clear q1 q2 q3 q4 q5 q6
      clear hb hHeld
      refine hK.out _ _ ⟨HR3.out, H53.out⟩ (fun hHeld => ?_)
      clear hK K
      try simp only [Act.put, List.setIfInBounds_toArray, List.set_cons_zero, List.set_cons_succ]
      refine wpAnyH_take (i := 8) (oi := { dst := some 2, op := Op.assign (Operand.tmp 57), type := 31, pos := _, after := _, guard := none }) (v := .slice A3 n3 cc3) rfl (by kernel_rfl) (by kernel_rfl) (by kernel_rfl) (fun _ _ _ h => h) (Or.inl ⟨by rfl, fun w' hS' => by go_simp⟩) (by assumption) ?_
      simp only [Act.put, List.setIfInBounds_toArray, List.set_cons_zero, List.set_cons_succ]
      refine wpAnyH_done (by kernel_rfl) ?_ _
      go_wp2
      go_ret
      exact HQ.out
    · have hks : x.kind = 8 := hk
      rw [hks] at c0
      have HK := Lib.hid hks
      clear hk hks
      go_upto_region 19 with (fail)
      have HBd : Hid (Below w.heap.size w wc.drew) := HB.out.drew
      have HRd : Hid (RAt wc.drew w.heap.size x) := HR.out
      have H5d : Hid (At6B wc.drew p5 (.int .i64 1) (.int .u64 (x.v.a : Int)) (.int .u64 (x.v.b : Int)) (.int .u64 (x.v.c : Int)) (.slice x.A x.v.pre.length x.c) (.slice none 0 0)) := H5.out
      clear HB HR HL HH H5 H6 c0 c1 c2 c3 c4 c5 c6
      refine wp_region_held_drew (S := fun w' => RAt w' w.heap.size x ∧ At6B w' p5 (.int .i64 1) (.int .u64 (x.v.a : Int)) (.int .u64 (x.v.b : Int)) (.int .u64 (x.v.c : Int)) (.slice x.A x.v.pre.length x.c) (.slice none 0 0)) (by kernel_rfl) ⟨HRd.out, H5d.out⟩ (fun hHeld => ?_)
      refine wpAnyH_take (i := 0) (oi := { dst := some 60, op := Op.load 41 (Operand.tmp 5), type := 41, pos := _, after := _, guard := none }) (v := .agg #[.int .i64 1, .int .u64 (x.v.a : Int), .int .u64 (x.v.b : Int), .int .u64 (x.v.c : Int), .slice x.A x.v.pre.length x.c, .slice none 0 0]) rfl (by kernel_rfl) (by kernel_rfl) (by kernel_rfl) (fun _ _ _ h => h) (Or.inl ⟨by rfl, fun w' hS' => by obtain ⟨_, _, a0, a1, a2, a3, a4, a5⟩ := hS'.2; go_simp⟩) (by assumption) ?_
      simp only [Act.put, List.setIfInBounds_toArray, List.set_cons_zero, List.set_cons_succ]
      refine wpAnyH_take (i := 1) (oi := { dst := some 61, op := Op.fieldAddr 28 (Operand.tmp 1) 1, type := 0, pos := _, after := _, guard := none }) (v := .pointer (some ⟨w.heap.size, 1, none⟩)) rfl (by kernel_rfl) (by kernel_rfl) (by kernel_rfl) (fun _ _ _ h => h) (Or.inl ⟨by rfl, fun w' hS' => by go_simp⟩) (by assumption) ?_
      simp only [Act.put, List.setIfInBounds_toArray, List.set_cons_zero, List.set_cons_succ]
      refine wpAnyH_take (i := 2) (oi := { dst := some 62, op := Op.load 25 (Operand.tmp 61), type := 25, pos := _, after := _, guard := none }) (v := .agg #[.int .u64 (x.v.a : Int), .int .u64 (x.v.b : Int), .int .u64 (x.v.c : Int), .slice x.A x.v.pre.length x.c, .slice x.B x.v.build.length x.d]) rfl (by kernel_rfl) (by kernel_rfl) (by kernel_rfl) (fun _ _ _ h => h) (Or.inl ⟨by rfl, fun w' hS' => by obtain ⟨y1, y2, c0, c1, c2, c3, c4, c5, c6⟩ := hS'.1; go_simp⟩) (by assumption) ?_
      simp only [Act.put, List.setIfInBounds_toArray, List.set_cons_zero, List.set_cons_succ]
      refine wpAnyH_ready (rs := [3]) (by kernel_rfl) (by simp) ?_
      refine AllReadyH.cons (o := { dst := some 63, op := Op.call { callee := Callee.value (Operand.func 100), args := #[Operand.tmp 62], argTypes := #[25] }, type := 89, pos := _, after := _, guard := none }) rfl (fun K hK => ?_) AllReadyH.nil
      go_simp
      refine (tilde_any x.v x.A x.c x.B x.d _).mono ?_
      rintro e wm1 ⟨A9, c9, rfl, hr9, hb9, hb⟩
      have HB1 := Lib.hid (HBd.out.trans (hb.mono HBd.out.size))
      have HR1 := Lib.hid (HRd.out.kept hb HRd.out.1)
      have H51 := Lib.hid (H5d.out.kept hb H5d.out.1)
      have HS9 := Lib.hid hr9
      have HZ9 := Lib.hid hb9
      clear hr9 hb9
      clear hb hHeld
      refine hK.out _ _ ⟨HR1.out, H51.out⟩ (fun hHeld => ?_)
      clear hK K
      try simp only [Act.put, List.setIfInBounds_toArray, List.set_cons_zero, List.set_cons_succ]
      refine wpAnyH_take (i := 4) (oi := { dst := some 64, op := Op.extract (Operand.tmp 63) 0, type := 25, pos := _, after := _, guard := none }) (v := .agg #[.int .u64 ((verOf (tildeV x.v)).a : Int), .int .u64 ((verOf (tildeV x.v)).b : Int), .int .u64 ((verOf (tildeV x.v)).c : Int), .slice A9 (verOf (tildeV x.v)).pre.length c9, .slice none (verOf (tildeV x.v)).build.length 0]) rfl (by kernel_rfl) (by kernel_rfl) (by kernel_rfl) (fun _ _ _ h => h) (Or.inl ⟨by rfl, fun w' hS' => by go_simp⟩) (by assumption) ?_
      simp only [Act.put, List.setIfInBounds_toArray, List.set_cons_zero, List.set_cons_succ]
      refine wpAnyH_take (i := 5) (oi := { dst := some 65, op := Op.extract (Operand.tmp 63) 1, type := 4, pos := _, after := _, guard := none }) (v := .bool (tildeV x.v).isSome) rfl (by kernel_rfl) (by kernel_rfl) (by kernel_rfl) (fun _ _ _ h => h) (Or.inl ⟨by rfl, fun w' hS' => by go_simp⟩) (by assumption) ?_
      simp only [Act.put, List.setIfInBounds_toArray, List.set_cons_zero, List.set_cons_succ]
      refine wpAnyH_ready (rs := [6]) (by kernel_rfl) (by simp) ?_
      refine AllReadyH.cons (o := { dst := some 66, op := Op.call { callee := Callee.value (Operand.func 98), args := #[Operand.tmp 64, Operand.tmp 65], argTypes := #[25, 4] }, type := 41, pos := _, after := _, guard := none }) rfl (fun K hK => ?_) AllReadyH.nil
      go_simp
      refine (nend_any (tildeV x.v) A9 c9 _ HS9.out (end_fit _ _ _ _) HZ9.out).mono ?_
      rintro e wm2 ⟨z, rfl, hzc, hzl, hb⟩
      have HB2 := Lib.hid (HB1.out.trans (hb.mono HB1.out.size))
      have HR2 := Lib.hid (HR1.out.kept hb HR1.out.1)
      have H52 := Lib.hid (H51.out.kept hb H51.out.1)
      have HZC := Lib.hid hzc
      have HZL := Lib.hid hzl
      clear hzc hzl
      clear hb hHeld
      refine hK.out _ _ ⟨HR2.out, H52.out⟩ (fun hHeld => ?_)
      clear hK K
      try simp only [Act.put, List.setIfInBounds_toArray, List.set_cons_zero, List.set_cons_succ]
      refine wpAnyH_ready (rs := [7]) (by kernel_rfl) (by simp) ?_
      refine AllReadyH.cons (o := { dst := some 67, op := Op.call { callee := Callee.value (Operand.func 97), args := #[Operand.tmp 60, Operand.tmp 66], argTypes := #[41, 41] }, type := 31, pos := _, after := _, guard := none }) rfl (fun K hK => ?_) AllReadyH.nil
      go_simp
      refine (between_any ⟨1, bare x.v, x.A, x.c, none, 0⟩ z _ ⟨HRow.out.kept HB2.out, SRow.none_ _ _, HF.out, Fit.nil⟩ HZL.out).mono ?_
      rintro e wm3 ⟨A3, n3, cc3, out, rfl, q1, q2, q3, q4, q5, q6, hb⟩
      have HR3 := Lib.hid (HR2.out.kept hb HR2.out.1)
      have H53 := Lib.hid (H52.out.kept hb H52.out.1)
      have HB3 := Lib.hid (HB2.out.trans (hb.mono HB2.out.size))
      rw [show (RCut.mk 1 (bare x.v) x.A x.c none 0).cut = loOf 8 x.v from rfl, show z.cut = hiOf 8 x.v from HZC.out] at q3
      have HQ : Hid (SetIn w 2 (SetOf (.mk x.kind x.v [])) (.returned (.slice A3 n3 cc3)) wm3) := ⟨A3, n3, cc3, out, rfl, q1, Nat.le_trans q2 (by omega), by rw [HK.out]; exact set_span (k := 8) (by omega) (by omega) (by omega) (.inr HG.out) [] q3, fun s hs => (q4 s hs).mono HB2.out.size, q5, q6, HB3.out⟩
      clear q1 q2 q3 q4 q5 q6
      clear hb hHeld
      refine hK.out _ _ ⟨HR3.out, H53.out⟩ (fun hHeld => ?_)
      clear hK K
      try simp only [Act.put, List.setIfInBounds_toArray, List.set_cons_zero, List.set_cons_succ]
      refine wpAnyH_take (i := 8) (oi := { dst := some 2, op := Op.assign (Operand.tmp 67), type := 31, pos := _, after := _, guard := none }) (v := .slice A3 n3 cc3) rfl (by kernel_rfl) (by kernel_rfl) (by kernel_rfl) (fun _ _ _ h => h) (Or.inl ⟨by rfl, fun w' hS' => by go_simp⟩) (by assumption) ?_
      simp only [Act.put, List.setIfInBounds_toArray, List.set_cons_zero, List.set_cons_succ]
      refine wpAnyH_done (by kernel_rfl) ?_ _
      go_wp2
      go_ret
      exact HQ.out
    · have hks : x.kind = 0 := hk
      rw [hks] at c0
      have HK := Lib.hid hks
      clear hk hks
      obtain ⟨_, _, a0, a1, a2, a3, a4, a5⟩ := HL.out
      obtain ⟨_, _, b0, b1, b2, b3, b4, b5⟩ := HH.out
      go_wp2_with fail
      refine (between_any rlow rhigh _ (Span.Lies.low _) (Span.Lies.high _)).mono ?_
      intro e w3 h3
      have HS : Hid (SetIn w 2 (SetOf (.mk x.kind x.v [])) e w3) := setIn_imp (h3.mono HB.out) (fun o ho => by rw [HK.out]; exact set_span (k := 0) (by omega) (by omega) (by omega) (.inl rfl) [] ho) (by omega)
      obtain ⟨A3, n3, cc3, out, rfl, q1, q2, q3, q4, q5, q6, q7⟩ := HS.out
      clear h3
      go_wp2
      go_ret
      exact HS.out
end Go.Proofs.YtgfbflnhjpbceaaGreatDoor.Nrm

namespace Go.Proofs.YtgfbflnhjpbceaaGreatDoor.Nrm
open Go.RowKit Num Ident Semver Prec Span
open Range (Rng noRng goodR goodL fits RV RAt RgRow LtB wt wtL wtL_len wt_mem KeepS)
/-- What was gathered of the first ranges. -/
structure GaAt (w : World) (l : List Rng) (Q : Rng → Cut → Prop) (k : Nat) (v : Value) (m : Nat) (out : List RSp) (W : World) : Prop where
  own : W.ownsRow w.heap.size 43 12 v m (out.flatMap RSp.vals)
  len : out.length = m
  lies : ∀ s ∈ out, OwnsS W w.heap.size s
  few : m ≤ 3 * wtL (l.take k)
  has : ∀ c, inR (out.map RSp.sp) c ↔ ∃ x ∈ l.take k, Q x c
  bel : Below w.heap.size w W
theorem wtL_take : ∀ (l : List Rng) (k : Nat), wtL (l.take k) ≤ wtL l
  | [], k => by simp
  | x :: l, 0 => by simp [wtL]
  | x :: l, k + 1 => by rw [List.take_succ_cons, Range.wtL_cons, Range.wtL_cons]; have := wtL_take l k; omega
theorem take_next {α : Type} [Inhabited α] (l : List α) (d : α) (k : Nat) (h : k < l.length) : l.take (k + 1) = l.take k ++ [l.getD k d] := by
  rw [List.take_add_one, List.getD_eq_getElem?_getD, List.getElem?_eq_getElem h]; rfl
theorem GaAt.start (w : World) (l : List Rng) (Q : Rng → Cut → Prop) : GaAt w l Q 0 (.slice none 0 0) 0 [] w :=
  ⟨World.ownsRow_nil _ _ _ _, rfl, (fun s hs => by cases hs), Nat.zero_le _, fun c => ⟨fun h => absurd h (inR_nil c), fun ⟨x, hx, _⟩ => by simp at hx⟩, Below.refl _ _⟩
theorem GaAt.kept {w : World} {l : List Rng} {Q : Rng → Cut → Prop} {k : Nat} {v : Value} {m : Nat} {out : List RSp} {W W' : World} (h : GaAt w l Q k v m out W) (hb : Below W.heap.size W W') : GaAt w l Q k v m out W' :=
  ⟨own_below h.own hb, h.len, fun s hs => (h.lies s hs).kept hb, h.few, h.has, h.bel.trans (hb.mono h.bel.size)⟩
theorem GaAt.more {w : World} {l : List Rng} {Q : Rng → Cut → Prop} {k : Nat} {v : Value} {m : Nat} {out : List RSp} {W : World} (h : GaAt w l Q k v m out W) (hk : k < l.length) {A2 : Option Addr} {m2 : Nat} {o2 : List RSp} (h2 : SpRow W A2 m2 o2) (h2o : ∀ s ∈ o2, OwnsS W w.heap.size s)
    (hN : Span.Norm (o2.map RSp.sp)) (hQ : ∀ c, inS (o2.map RSp.sp) c ↔ Q (l.getD k noRng) c) (hm2 : m2 ≤ 3 * wt (l.getD k noRng)) {v3 : Value} {W3 : World} (ho : W3.ownsRow w.heap.size 43 12 v3 (m + m2) ((out ++ o2).flatMap RSp.vals)) (hg : W.grownBy W3 v.ownBlock) : GaAt w l Q (k + 1) v3 (m + m2) (out ++ o2) W3 := by
  refine ⟨ho, by rw [List.length_append, h.len, h2.1], fun s hs => ?_, ?_, fun c => ?_, h.bel.trans ((Below.refl _ _).grown hg h.bel.size fun k hk => (h.own.lt k hk).1)⟩
  · rcases List.mem_append.1 hs with hs | hs
    · exact (h.lies s hs).grown h.own hg
    · exact (h2o s hs).grown h.own hg
  · rw [take_next l noRng k hk, wtL_append, Range.wtL_cons]
    have := h.few
    show m + m2 ≤ 3 * (wtL (l.take k) + (wt (l.getD k noRng) + 0))
    omega
  · rw [List.map_append, inR_append, h.has c, hN.inR, hQ, take_next l noRng k hk]
    constructor
    · rintro (⟨x, hx, hq⟩ | hq)
      · exact ⟨x, List.mem_append_left _ hx, hq⟩
      · exact ⟨_, List.mem_append_right _ (List.mem_singleton.2 rfl), hq⟩
    · rintro ⟨x, hx, hq⟩
      rcases List.mem_append.1 hx with hx | hx
      · exact .inl ⟨x, hx, hq⟩
      · rw [List.mem_singleton] at hx; subst hx; exact .inr hq
theorem SpRow.news {w : World} {ad : Addr} {m : Nat} {r : List RSp} (h : SpRow w (some ad) m r) : ∀ j u, (r.flatMap RSp.vals)[j]? = some u → w.cell? (ad.add j) = some u := by
  intro j u hu
  have hj : j < r.length * 12 := by rw [← flat_len RSp.vals 12 svals_len]; exact (List.getElem?_eq_some_iff.1 hu).1
  have hr := h.1
  obtain ⟨b, o, e, _, hc⟩ := h.2.2 (by omega)
  injection e with e
  subst e
  rw [add_none]
  have h1 : j = j / 12 * 12 + j % 12 := by omega
  rw [h1, flat_get RSp.vals 12 svals_len r (j / 12) (j % 12) (by omega) (by omega)] at hu
  have := hc (j / 12) (by omega) (j % 12) u hu
  rw [Nat.add_assoc, ← h1] at this
  exact this
/-- append of a set to spans that the call itself gathered. -/
theorem wpList_append_set (w : World) {ops : Array Oper} {rest : List Oper} {o : Oper} {a : Act} {Q : Exit → Act → World → Prop} (hgd : o.guard = none) (s x : Operand)
    (ho : o.op = .call { callee := .builtin .append, args := #[s, x], argTypes := #[31, 31] })
    (base : Nat) (v : Value) (n : Nat) (l : List RSp) (hs : a.eval s = v) (hown : w.ownsRow base 43 12 v n (l.flatMap RSp.vals))
    (A : Option Addr) (m c : Nat) (r : List RSp) (hx : a.eval x = .slice A m c) (hr : SpRow w A m r) (hnil : A = none → c = 0) (hb : (n + m) * 160 ≤ 140737488355328) (hbase : base ≤ w.heap.size)
    (h : ∀ v' w', w'.ownsRow base 43 12 v' (n + m) ((l ++ r).flatMap RSp.vals) → w.grownBy w' v.ownBlock → wpList Tryz.prog ops Q rest (a.put o.dst v') w') : wpList Tryz.prog ops Q (o :: rest) a w := by
  cases A with
  | some ad =>
    obtain ⟨i, hi, hz, hsz, hby⟩ := info_parts spInfo
    refine wpList_append_own w hgd s x 31 ho base 43 i _ 12 160 Tryz.underlying31 hi hz hsz hby rfl (by omega) v n _ hs hown ad m c _ hx (by rw [flat_len _ 12 svals_len, hr.1]) (SpRow.news hr) (flat_one _ svals_one r) (by unfold maxLen; omega) hb hbase (fun v' w' h2 h3 _ => ?_)
    exact h v' w' (by rw [List.flatMap_append]; exact h2) h3
  | none =>
    obtain rfl := hnil rfl
    obtain rfl : m = 0 := by
      rcases Nat.eq_zero_or_pos m with h0 | h0
      · exact h0
      · obtain ⟨_, _, e, _⟩ := hr.2.2 h0; cases e
    obtain rfl : r = [] := List.eq_nil_of_length_eq_zero hr.1
    obtain ⟨i, hi, _⟩ := info_parts spInfo
    have hrun := run_append_owned_none (P := Tryz.prog) (w := w) base 31 o.type 43 i 12 Tryz.underlying31 hi v n _ hown
    refine wpList_plain hgd fun K hK => ?_
    unfold Oper.wp execOp
    simp only [ho, resolve, invoke, builtin, Sem.run_bind, Sem.run_pure, Result.andThen_ok, List.map_toArray, List.map_cons, List.map_nil, hs, hx, hrun]
    exact hK _ _ (h v w (by simpa using hown) (World.grownBy.refl w _))
/-- What gathered leaves. -/
def GathPost (w : World) (l : List Rng) (Q : Rng → Cut → Prop) (e : Ending) (w' : World) : Prop :=
  ∃ (A : Option Addr) (n c : Nat) (out : List RSp), e = .returned (.slice A n c) ∧ SpRow w' A n out ∧ n ≤ 3 * wtL l ∧ (∀ c, inR (out.map RSp.sp) c ↔ ∃ x ∈ l, Q x c) ∧ Below w.heap.size w w'
theorem GaAt.post {w : World} {l : List Rng} {Q : Rng → Cut → Prop} {k : Nat} {v : Value} {m : Nat} {out : List RSp} {W : World} (h : GaAt w l Q k v m out W) (hk : l.length ≤ k) : ∃ A c, v = .slice A m c ∧ GathPost w l Q (.returned (.slice A m c)) W := by
  obtain ⟨A, c, e, _, _, hcell⟩ := own_cells svals_len h.own h.len
  have h1 := h.few
  have h2 := h.has
  rw [List.take_of_length_le hk] at h1 h2
  refine ⟨A, c, e, A, m, c, out, rfl, ⟨h.len, fun s hs => (h.lies s hs).lies, fun h0 => ?_⟩, h1, h2, h.bel⟩
  obtain ⟨g, e1, _, e2, _, e3⟩ := hcell h0
  exact ⟨g, 0, e1, e2, e3⟩

def GaJS (w : World) (A : Option Addr) (n c : Nat) (l : List Rng) (a' : Act) (W : World) : Prop :=
  ∃ (k m : Nat) (v : Value) (out : List RSp) (u7 u8 u9 u10 u11 u12 u13 u14 u15 u16 u17 u18 u19 u20 u21 : Value), k ≤ n ∧ GaAt w l (fun x c => inC x c) k v m out W ∧
    a' = { tmps := #[.slice A n c, .func (.func 28) #[] #[], undef, undef, .slice none 0 0, v, .int .i64 (k : Int), u7, u8, u9, u10, u11, u12, u13, u14, u15, u16, u17, u18, u19, u20, u21], defers := [] }
def GaMS (n : Nat) (a' : Act) (_ : World) : Nat := n - (intOf (a'.tmps.getD 6 undef)).toNat
set_option maxRecDepth 100000 in
set_option maxHeartbeats 3200000 in
theorem gatheredS (A : Option Addr) (n c B : Nat) (l : List Rng) (w : World) (hl : RgRow w (LtB B) A n l) (hB : B ≤ w.heap.size) (hw : wtL l ≤ 1500)
    (hF : ∀ r, r ∈ l → ∀ (x : RV) (W : World), Range.Lies W (LtB B) r x → B ≤ W.heap.size → Calls Tryz.prog 28 #[x.agg] W (SetIn W (3 * wt r) (SetOf r))) :
    Calls Tryz.prog 59 #[.slice A n c, .func (.func 28) #[] #[]] w (GathPost w l (fun x c => inC x c)) := by
  have HL := Lib.hid hl
  have HF := Lib.hid hF
  have hln : l.length = n := by obtain ⟨f, h1, _⟩ := hl; exact h1
  have hnw : n ≤ 1500 := by have := wtL_len l; omega
  clear hl hF
  go_enter Tryz.func59, Tryz.ntmps59
  go_wp2
  refine wp_scope_back 0 (GaJS w A n c l) (GaMS n) rfl ?_ ?_
  · rintro a' W ⟨k, m, v, out, u7, u8, u9, u10, u11, u12, u13, u14, u15, u16, u17, u18, u19, u20, u21, hk, hat, rfl⟩
    have HA := Lib.hid hat
    clear hat
    by_cases hlt : k < n
    · obtain ⟨b, o, x, hLe, hSb, hcl, hx⟩ := (HL.out.keep (KeepS.of_below (S := LtB B) (HA.out.bel.mono (Nat.le_refl _)))).one hlt
      have hne : ¬ k = n := by omega
      have hll : k < l.length := by omega
      have hmem : l.getD k noRng ∈ l := by
        rw [List.getD_eq_getElem?_getD, List.getElem?_eq_getElem hll]; exact List.getElem_mem _
      have HX := Lib.hid (HF.out _ hmem x W hx (Nat.le_trans hB HA.out.bel.size))
      have hwx : wt (l.getD k noRng) ≤ 1500 := by have := wt_mem hmem; omega
      obtain ⟨e0, e1, e2, e3, e4, e5, e6⟩ := hcl.cells
      rw [hLe]
      clear hcl hx
      go_wp2_with fail
      refine HX.out.mono ?_
      rintro e W2 ⟨A2, m2, c2, o2, rfl, q1, q2, q3, q4, q5, q6, hb⟩
      have HA2 := Lib.hid (HA.out.kept hb)
      have HQ := Lib.hid q3
      have HS := Lib.hid q1
      have HN := Lib.hid q6
      have HO : Hid (∀ s ∈ o2, OwnsS W2 w.heap.size s) := fun s hs => (q4 s hs).mono HA.out.bel.size
      have hq2 := q2
      have hm3 : m ≤ 4500 := by have h1 := HA.out.few; have h2 := wtL_take l k; omega
      have hm2 : m2 ≤ 4500 := Nat.le_trans q2 (by omega)
      clear q1 q2 q3 q4 q5 q6 hb e0 e1 e2 e3 e4 e5 e6 HX HA
      have HM := Lib.hid (fun v3 W3 ho hb3 => GaAt.more (v3 := v3) (W3 := W3) HA2.out hll HS.out HO.out HQ.out.1 HQ.out.2 hq2 ho hb3)
      go_wp2_with (first
        | (at_builtin; refine wpList_append_set _ rfl _ _ rfl w.heap.size _ m out rfl HA2.out.own A2 m2 c2 o2 rfl HS.out HN.out (by omega) HA2.out.bel.size ?_; intro v3 W3 ho hb3; have HG3 := Lib.hid (HM.out v3 W3 ho hb3); clear ho hb3)
        | fail)
      go_step3
      rw [show ((k : Int) + 1) = ((k + 1 : Nat) : Int) from rfl]
      exact ⟨rfl, ⟨k + 1, m + m2, v3, out ++ o2, _, _, _, _, _, _, _, _, _, _, _, _, _, _, _, by omega, HG3.out, rfl⟩, by simp [GaMS, intOf]; omega⟩
    · obtain rfl : k = n := by omega
      obtain ⟨A9, c9, rfl, hp⟩ := HA.out.post (Nat.le_of_eq hln)
      have HP := Lib.hid hp
      clear hp
      go_wp2
      simp only [Exit.jump]
      go_ret
      exact HP.out
  · intro HP
    go_wp2
    go_step3
    rename_i hK
    exact hK _ _ (HP.out _ _ ⟨0, 0, .slice none 0 0, [], _, _, _, _, _, _, _, _, _, _, _, _, _, _, _, by omega, GaAt.start _ _ _, rfl⟩)

def GaJO (w : World) (A : Option Addr) (n c : Nat) (l : List Rng) (a' : Act) (W : World) : Prop :=
  ∃ (k m : Nat) (v : Value) (out : List RSp) (u7 u8 u9 u10 u11 u12 u13 u14 u15 u16 u17 u18 u19 u20 u21 : Value), k ≤ n ∧ GaAt w l (fun x c => inOne ⟨low, high⟩ c ∧ ¬ inC x c) k v m out W ∧
    a' = { tmps := #[.slice A n c, .func (.func 60) #[] #[], undef, undef, .slice none 0 0, v, .int .i64 (k : Int), u7, u8, u9, u10, u11, u12, u13, u14, u15, u16, u17, u18, u19, u20, u21], defers := [] }
def GaMO (n : Nat) (a' : Act) (_ : World) : Nat := n - (intOf (a'.tmps.getD 6 undef)).toNat
set_option maxRecDepth 100000 in
set_option maxHeartbeats 3200000 in
theorem gatheredO (A : Option Addr) (n c B : Nat) (l : List Rng) (w : World) (hl : RgRow w (LtB B) A n l) (hB : B ≤ w.heap.size) (hw : wtL l ≤ 1500)
    (hF : ∀ r, r ∈ l → ∀ (x : RV) (W : World), Range.Lies W (LtB B) r x → B ≤ W.heap.size → Calls Tryz.prog 60 #[x.agg] W (SetIn W (3 * wt r) (RestOf r))) :
    Calls Tryz.prog 59 #[.slice A n c, .func (.func 60) #[] #[]] w (GathPost w l (fun x c => inOne ⟨low, high⟩ c ∧ ¬ inC x c)) := by
  have HL := Lib.hid hl
  have HF := Lib.hid hF
  have hln : l.length = n := by obtain ⟨f, h1, _⟩ := hl; exact h1
  have hnw : n ≤ 1500 := by have := wtL_len l; omega
  clear hl hF
  go_enter Tryz.func59, Tryz.ntmps59
  go_wp2
  refine wp_scope_back 0 (GaJO w A n c l) (GaMO n) rfl ?_ ?_
  · rintro a' W ⟨k, m, v, out, u7, u8, u9, u10, u11, u12, u13, u14, u15, u16, u17, u18, u19, u20, u21, hk, hat, rfl⟩
    have HA := Lib.hid hat
    clear hat
    by_cases hlt : k < n
    · obtain ⟨b, o, x, hLe, hSb, hcl, hx⟩ := (HL.out.keep (KeepS.of_below (S := LtB B) (HA.out.bel.mono (Nat.le_refl _)))).one hlt
      have hne : ¬ k = n := by omega
      have hll : k < l.length := by omega
      have hmem : l.getD k noRng ∈ l := by
        rw [List.getD_eq_getElem?_getD, List.getElem?_eq_getElem hll]; exact List.getElem_mem _
      have HX := Lib.hid (HF.out _ hmem x W hx (Nat.le_trans hB HA.out.bel.size))
      have hwx : wt (l.getD k noRng) ≤ 1500 := by have := wt_mem hmem; omega
      obtain ⟨e0, e1, e2, e3, e4, e5, e6⟩ := hcl.cells
      rw [hLe]
      clear hcl hx
      go_wp2_with fail
      refine HX.out.mono ?_
      rintro e W2 ⟨A2, m2, c2, o2, rfl, q1, q2, q3, q4, q5, q6, hb⟩
      have HA2 := Lib.hid (HA.out.kept hb)
      have HQ := Lib.hid q3
      have HS := Lib.hid q1
      have HN := Lib.hid q6
      have HO : Hid (∀ s ∈ o2, OwnsS W2 w.heap.size s) := fun s hs => (q4 s hs).mono HA.out.bel.size
      have hq2 := q2
      have hm3 : m ≤ 4500 := by have h1 := HA.out.few; have h2 := wtL_take l k; omega
      have hm2 : m2 ≤ 4500 := Nat.le_trans q2 (by omega)
      clear q1 q2 q3 q4 q5 q6 hb e0 e1 e2 e3 e4 e5 e6 HX HA
      have HM := Lib.hid (fun v3 W3 ho hb3 => GaAt.more (v3 := v3) (W3 := W3) HA2.out hll HS.out HO.out HQ.out.1 HQ.out.2 hq2 ho hb3)
      go_wp2_with (first
        | (at_builtin; refine wpList_append_set _ rfl _ _ rfl w.heap.size _ m out rfl HA2.out.own A2 m2 c2 o2 rfl HS.out HN.out (by omega) HA2.out.bel.size ?_; intro v3 W3 ho hb3; have HG3 := Lib.hid (HM.out v3 W3 ho hb3); clear ho hb3)
        | fail)
      go_step3
      rw [show ((k : Int) + 1) = ((k + 1 : Nat) : Int) from rfl]
      exact ⟨rfl, ⟨k + 1, m + m2, v3, out ++ o2, _, _, _, _, _, _, _, _, _, _, _, _, _, _, _, by omega, HG3.out, rfl⟩, by simp [GaMO, intOf]; omega⟩
    · obtain rfl : k = n := by omega
      obtain ⟨A9, c9, rfl, hp⟩ := HA.out.post (Nat.le_of_eq hln)
      have HP := Lib.hid hp
      clear hp
      go_wp2
      simp only [Exit.jump]
      go_ret
      exact HP.out
  · intro HP
    go_wp2
    go_step3
    rename_i hK
    exact hK _ _ (HP.out _ _ ⟨0, 0, .slice none 0 0, [], _, _, _, _, _, _, _, _, _, _, _, _, _, _, _, by omega, GaAt.start _ _ _, rfl⟩)
end Go.Proofs.YtgfbflnhjpbceaaGreatDoor.Nrm
