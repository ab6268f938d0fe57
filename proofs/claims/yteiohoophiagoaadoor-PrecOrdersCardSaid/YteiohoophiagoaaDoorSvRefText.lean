/-
  The document's own text of a version (ferruleref03.Text): the same as the program's. Conditions: the rows read as the lists pre and build, few and short; the numbers fit.
-/
import Derived.Test.YteiohoophiagoaaDoorSvPlain
import Derived.Test.YteiohoophiagoaaDoorSvMem
import Derived.Test.YteiohoophiagoaaDoorIdRefTexts
import Derived.Test.YteiohoophiagoaaDoorNumRefText
import Derived.Deep.CutBlock
import Derived.Deep.DeepCutAuto
import Derived.Deep.RegionHeld3
namespace Go.Proofs.YteiohoophiagoaaDoor.Semver
open Go.RowKit Num Ident

theorem mk_byte (t : List UInt8) (b : UInt8) : mk t ++ (⟨#[b]⟩ : ByteArray) = mk (t ++ [b]) := mk_cat t [b]

set_option maxRecDepth 100000 in
set_option maxHeartbeats 3200000 in
theorem refText_any (v : Ver) (A : Option Addr) (c : Nat) (B : Option Addr) (d : Nat) (w : World) (ha : v.a < 18446744073709551616) (hb : v.b < 18446744073709551616) (hc : v.c < 18446744073709551616)
    (hr1 : SRow w A v.pre.length v.pre) (hr2 : SRow w B v.build.length v.build) (hs1 : shortB v.pre = true) (hs2 : shortB v.build = true) :
    Calls Tryd.prog 18 #[.agg #[.int .u64 (v.a : Int), .int .u64 (v.b : Int), .int .u64 (v.c : Int), .slice A v.pre.length c, .slice B v.build.length d]] w fun e w' => e = .returned (.string (mk (vtext v))) ∧ Below w.heap.size w w' := by
  have HD0 : Hid (∀ W, Calls Tryd.prog 26 #[.int .u64 (v.a : Int)] W fun e w' => e = .returned (.string (mk (Lib.decDigits v.a))) ∧ Below W.heap.size W w') := fun W => Num.ref_text_any v.a W ha
  have HD1 : Hid (∀ W, Calls Tryd.prog 26 #[.int .u64 (v.b : Int)] W fun e w' => e = .returned (.string (mk (Lib.decDigits v.b))) ∧ Below W.heap.size W w') := fun W => Num.ref_text_any v.b W hb
  have HD2 : Hid (∀ W, Calls Tryd.prog 26 #[.int .u64 (v.c : Int)] W fun e w' => e = .returned (.string (mk (Lib.decDigits v.c))) ∧ Below W.heap.size W w') := fun W => Num.ref_text_any v.c W hc
  have l0 := dec_le v.a ha
  have l1 := dec_le v.b hb
  have l2 := dec_le v.c hc
  have HBa : Hid (Below w.heap.size w (w.alloc (.cells #[.int .u64 (v.a : Int), .int .u64 (v.b : Int), .int .u64 (v.c : Int), .slice A v.pre.length c, .slice B v.build.length d] 25))) := (Below.refl _ _).alloc (Nat.le_refl _) _
  have K0 := Lib.hid (At5.new w 25 (.int .u64 (v.a : Int)) (.int .u64 (v.b : Int)) (.int .u64 (v.c : Int)) (.slice A v.pre.length c) (.slice B v.build.length d))
  have R1a := Lib.hid hr1
  have R2a := Lib.hid hr2
  have S1 := Lib.hid hs1
  have S2 := Lib.hid hs2
  have HTX : Hid (vtext v = Lib.decDigits v.a ++ [46] ++ Lib.decDigits v.b ++ [46] ++ Lib.decDigits v.c ++ rowText 45 v.pre ++ rowText 43 v.build) := rfl
  clear ha hb hc hr1 hr2 hs1 hs2
  generalize Lib.decDigits v.a = d0 at HD0 HTX l0
  generalize Lib.decDigits v.b = d1 at HD1 HTX l1
  generalize Lib.decDigits v.c = d2 at HD2 HTX l2
  have e1 := mk_byte d0 46
  have e2 := mk_cat (d0 ++ [46]) d1
  have e3 := mk_byte (d0 ++ [46] ++ d1) 46
  have e4 := mk_cat (d0 ++ [46] ++ d1 ++ [46]) d2
  have z0 : (mk d0).size ≤ 20 := l0
  have z1 : (mk d1).size ≤ 20 := l1
  have z2 : (mk d2).size ≤ 20 := l2
  have y1 : (mk (d0 ++ [46])).size ≤ 21 := by rw [mk_size]; simp; omega
  have y2 : (mk (d0 ++ [46] ++ d1)).size ≤ 41 := by rw [mk_size]; simp; omega
  have y3 : (mk (d0 ++ [46] ++ d1 ++ [46])).size ≤ 42 := by rw [mk_size]; simp; omega
  have hlt4 : (d0 ++ [46] ++ d1 ++ [46] ++ d2).length ≤ 1000 := by simp; omega
  have c1 : ¬ 9223372036854775807 < (mk d0).size + 1 := by omega
  have c2 : ¬ 9223372036854775807 < (mk (d0 ++ [46])).size + (mk d1).size := by omega
  have c3 : ¬ 9223372036854775807 < (mk (d0 ++ [46] ++ d1)).size + 1 := by omega
  have c4 : ¬ 9223372036854775807 < (mk (d0 ++ [46] ++ d1 ++ [46])).size + (mk d2).size := by omega
  generalize hu1 : d0 ++ [46] = t1 at e1 e2 e3 e4 y1 y2 y3 c2 c3 c4 HTX hlt4
  generalize hu2 : t1 ++ d1 = t2 at e2 e3 e4 y2 y3 c3 c4 HTX hlt4
  generalize hu3 : t2 ++ [46] = t3 at e3 e4 y3 c4 HTX hlt4
  generalize hu4 : t3 ++ d2 = t4 at e4 HTX hlt4
  clear hu1 hu2 hu3 hu4 l0 l1 l2
  go_enter Tryd.func18, Tryd.ntmps18
  go_upto_region 1 with (fail)
  go_cut [3] (fun x wx => x = .string (mk t4) ∧ At5 wx w.heap.size (.int .u64 (v.a : Int)) (.int .u64 (v.b : Int)) (.int .u64 (v.c : Int)) (.slice A v.pre.length c) (.slice B v.build.length d) ∧ Below w.heap.size w wx)
  case first =>
    have B1 := Lib.hid (HBa.out.drew)
    have K1 := Lib.hid (K0.out.kept ((Below.refl _ _).drew) K0.out.1)
    refine wp_region_held_drew (S := fun w' => w'.cell? ⟨w.heap.size, 0, none⟩ = some (.int .u64 (v.a : Int)) ∧ w'.cell? ⟨w.heap.size, 1, none⟩ = some (.int .u64 (v.b : Int)) ∧ w'.cell? ⟨w.heap.size, 2, none⟩ = some (.int .u64 (v.c : Int)) ∧ w'.cell? ⟨w.heap.size, 3, none⟩ = some (.slice A v.pre.length c) ∧ w'.cell? ⟨w.heap.size, 4, none⟩ = some (.slice B v.build.length d)) (by kernel_rfl) K0.out.2.2 (fun hHeld => ?_)
    refine wpAnyH_take (i := 0) (oi := { dst := some 4, op := Op.fieldAddr 25 (Operand.tmp 1) 0, type := 0, pos := "ref.go:74", after := #[], guard := none }) (v := .pointer (some ⟨w.heap.size, 0, none⟩)) rfl (by kernel_rfl) (by kernel_rfl) (by kernel_rfl) (fun _ _ _ h => h) (Or.inl ⟨by rfl, fun w' hS' => by go_simp⟩) (by assumption) ?_
    simp only [Act.put, List.setIfInBounds_toArray, List.set_cons_zero, List.set_cons_succ]
    refine wpAnyH_take (i := 1) (oi := { dst := some 5, op := Op.load 22 (Operand.tmp 4), type := 22, pos := "ref.go:74", after := #[{ on := 0, ground := Ground.data }], guard := none }) (v := .int .u64 (v.a : Int)) rfl (by kernel_rfl) (by kernel_rfl) (by kernel_rfl) (fun _ _ _ h => h) (Or.inl ⟨by rfl, fun w' hS' => by go_simp⟩) (by assumption) ?_
    simp only [Act.put, List.setIfInBounds_toArray, List.set_cons_zero, List.set_cons_succ]
    refine wpAnyH_take (i := 4) (oi := { dst := some 8, op := Op.fieldAddr 25 (Operand.tmp 1) 1, type := 0, pos := "ref.go:74", after := #[], guard := none }) (v := .pointer (some ⟨w.heap.size, 1, none⟩)) rfl (by kernel_rfl) (by kernel_rfl) (by kernel_rfl) (fun _ _ _ h => h) (Or.inl ⟨by rfl, fun w' hS' => by go_simp⟩) (by assumption) ?_
    simp only [Act.put, List.setIfInBounds_toArray, List.set_cons_zero, List.set_cons_succ]
    refine wpAnyH_take (i := 5) (oi := { dst := some 9, op := Op.load 22 (Operand.tmp 8), type := 22, pos := "ref.go:74", after := #[{ on := 4, ground := Ground.data }], guard := none }) (v := .int .u64 (v.b : Int)) rfl (by kernel_rfl) (by kernel_rfl) (by kernel_rfl) (fun _ _ _ h => h) (Or.inl ⟨by rfl, fun w' hS' => by go_simp⟩) (by assumption) ?_
    simp only [Act.put, List.setIfInBounds_toArray, List.set_cons_zero, List.set_cons_succ]
    refine wpAnyH_take (i := 9) (oi := { dst := some 13, op := Op.fieldAddr 25 (Operand.tmp 1) 2, type := 0, pos := "ref.go:74", after := #[], guard := none }) (v := .pointer (some ⟨w.heap.size, 2, none⟩)) rfl (by kernel_rfl) (by kernel_rfl) (by kernel_rfl) (fun _ _ _ h => h) (Or.inl ⟨by rfl, fun w' hS' => by go_simp⟩) (by assumption) ?_
    simp only [Act.put, List.setIfInBounds_toArray, List.set_cons_zero, List.set_cons_succ]
    refine wpAnyH_take (i := 10) (oi := { dst := some 14, op := Op.load 22 (Operand.tmp 13), type := 22, pos := "ref.go:74", after := #[{ on := 9, ground := Ground.data }], guard := none }) (v := .int .u64 (v.c : Int)) rfl (by kernel_rfl) (by kernel_rfl) (by kernel_rfl) (fun _ _ _ h => h) (Or.inl ⟨by rfl, fun w' hS' => by go_simp⟩) (by assumption) ?_
    simp only [Act.put, List.setIfInBounds_toArray, List.set_cons_zero, List.set_cons_succ]
    refine wpAnyH_ready (rs := [2]) (by kernel_rfl) (by simp) ?_
    refine AllReadyH.cons (o := { dst := some 6, op := Op.call { callee := Callee.value (Operand.func 26), args := #[Operand.tmp 5], argTypes := #[22] }, type := 9, pos := "ref.go:74", after := #[{ on := 1, ground := Ground.data }], guard := none }) rfl (fun K hK => ?_) AllReadyH.nil
    go_simp
    refine (HD0.out _).mono ?_
    rintro e w2 ⟨rfl, hb2⟩
    have K2 := Lib.hid (K1.out.kept hb2 (by simp))
    have B2 := Lib.hid (B1.out.trans (hb2.mono (by simp)))
    have hz2 := K2.out.1
    clear hb2
    refine hK.out _ _ K2.out.2.2 (fun hHeld => ?_)
    clear hK K
    try simp only [Act.put, List.setIfInBounds_toArray, List.set_cons_zero, List.set_cons_succ]
    refine wpAnyH_take (i := 3) (oi := { dst := some 7, op := Op.binOp BinOp.add 9 (Operand.tmp 6) (Operand.const (Value.string { data := #[46] })) 9, type := 9, pos := "ref.go:74", after := #[{ on := 2, ground := Ground.data }], guard := none }) (v := .string (mk t1)) rfl (by kernel_rfl) (by kernel_rfl) (by kernel_rfl) (fun _ _ _ h => h) (Or.inl ⟨by rfl, fun w' hS' => by go_simp⟩) (by assumption) ?_
    simp only [Act.put, List.setIfInBounds_toArray, List.set_cons_zero, List.set_cons_succ]
    refine wpAnyH_ready (rs := [6]) (by kernel_rfl) (by simp) ?_
    refine AllReadyH.cons (o := { dst := some 10, op := Op.call { callee := Callee.value (Operand.func 26), args := #[Operand.tmp 9], argTypes := #[22] }, type := 9, pos := "ref.go:74", after := #[{ on := 5, ground := Ground.data }, { on := 2, ground := Ground.chain }], guard := none }) rfl (fun K hK => ?_) AllReadyH.nil
    go_simp
    refine (HD1.out _).mono ?_
    rintro e w3 ⟨rfl, hb3⟩
    have K3 := Lib.hid (K2.out.kept hb3 (by omega))
    have B3 := Lib.hid (B2.out.trans (hb3.mono (by omega)))
    have hz3 := K3.out.1
    clear hb3
    refine hK.out _ _ K3.out.2.2 (fun hHeld => ?_)
    clear hK K
    try simp only [Act.put, List.setIfInBounds_toArray, List.set_cons_zero, List.set_cons_succ]
    refine wpAnyH_take (i := 7) (oi := { dst := some 11, op := Op.binOp BinOp.add 9 (Operand.tmp 7) (Operand.tmp 10) 9, type := 9, pos := "ref.go:74", after := #[{ on := 3, ground := Ground.data }, { on := 6, ground := Ground.data }], guard := none }) (v := .string (mk t2)) rfl (by kernel_rfl) (by kernel_rfl) (by kernel_rfl) (fun _ _ _ h => h) (Or.inl ⟨by rfl, fun w' hS' => by go_simp⟩) (by assumption) ?_
    simp only [Act.put, List.setIfInBounds_toArray, List.set_cons_zero, List.set_cons_succ]
    refine wpAnyH_take (i := 8) (oi := { dst := some 12, op := Op.binOp BinOp.add 9 (Operand.tmp 11) (Operand.const (Value.string { data := #[46] })) 9, type := 9, pos := "ref.go:74", after := #[{ on := 7, ground := Ground.data }], guard := none }) (v := .string (mk t3)) rfl (by kernel_rfl) (by kernel_rfl) (by kernel_rfl) (fun _ _ _ h => h) (Or.inl ⟨by rfl, fun w' hS' => by go_simp⟩) (by assumption) ?_
    simp only [Act.put, List.setIfInBounds_toArray, List.set_cons_zero, List.set_cons_succ]
    refine wpAnyH_ready (rs := [11]) (by kernel_rfl) (by simp) ?_
    refine AllReadyH.cons (o := { dst := some 15, op := Op.call { callee := Callee.value (Operand.func 26), args := #[Operand.tmp 14], argTypes := #[22] }, type := 9, pos := "ref.go:74", after := #[{ on := 10, ground := Ground.data }, { on := 6, ground := Ground.chain }], guard := none }) rfl (fun K hK => ?_) AllReadyH.nil
    go_simp
    refine (HD2.out _).mono ?_
    rintro e w4 ⟨rfl, hb4⟩
    have K4 := Lib.hid (K3.out.kept hb4 (by omega))
    have B4 := Lib.hid (B3.out.trans (hb4.mono (by omega)))
    have hz4 := K4.out.1
    clear hb4
    refine hK.out _ _ K4.out.2.2 (fun hHeld => ?_)
    clear hK K
    try simp only [Act.put, List.setIfInBounds_toArray, List.set_cons_zero, List.set_cons_succ]
    refine wpAnyH_take (i := 12) (oi := { dst := some 16, op := Op.binOp BinOp.add 9 (Operand.tmp 12) (Operand.tmp 15) 9, type := 9, pos := "ref.go:74", after := #[{ on := 8, ground := Ground.data }, { on := 11, ground := Ground.data }], guard := none }) (v := .string (mk t4)) rfl (by kernel_rfl) (by kernel_rfl) (by kernel_rfl) (fun _ _ _ h => h) (Or.inl ⟨by rfl, fun w' hS' => by go_simp⟩) (by assumption) ?_
    simp only [Act.put, List.setIfInBounds_toArray, List.set_cons_zero, List.set_cons_succ]
    refine wpAnyH_take (i := 13) (oi := { dst := some 3, op := Op.assign (Operand.tmp 16), type := 9, pos := "ref.go:74", after := #[{ on := 12, ground := Ground.data }, { on := 11, ground := Ground.chain }, { on := 0, ground := Ground.phase }, { on := 1, ground := Ground.phase }, { on := 2, ground := Ground.phase }, { on := 3, ground := Ground.phase }, { on := 4, ground := Ground.phase }, { on := 5, ground := Ground.phase }, { on := 6, ground := Ground.phase }, { on := 7, ground := Ground.phase }, { on := 8, ground := Ground.phase }, { on := 9, ground := Ground.phase }, { on := 10, ground := Ground.phase }, { on := 11, ground := Ground.phase }, { on := 12, ground := Ground.phase }], guard := none }) (v := .string (mk t4)) rfl (by kernel_rfl) (by kernel_rfl) (by kernel_rfl) (fun _ _ _ h => h) (Or.inl ⟨by rfl, fun w' hS' => by go_simp⟩) (by assumption) ?_
    simp only [Act.put, List.setIfInBounds_toArray, List.set_cons_zero, List.set_cons_succ]
    refine wpAnyH_done (by kernel_rfl) ?_ _
    go_wp2
    go_meet
    exact ⟨rfl, K4.out, B4.out⟩
  case rest =>
    obtain ⟨rfl, hk, hbx⟩ := hcut
    have KX := Lib.hid hk
    have BX := Lib.hid hbx
    have R1 := Lib.hid (R1a.out.kept hbx)
    have R2 := Lib.hid (R2a.out.kept hbx)
    clear hk hbx e1 e2 e3 e4 z0 z1 z2 y1 y2 y3 c1 c2 c3 c4 HD0 HD1 HD2 R1a R2a K0 HBa
    by_cases h0 : 0 < v.pre.length
    · have e1 := mk_byte t4 45
      have e2 := mk_cat (t4 ++ [45]) (joined v.pre)
      have HR0 : Hid (t4 ++ rowText 45 v.pre = t4 ++ [45] ++ joined v.pre) := by unfold Hid; rw [rowText_some (by omega), List.append_assoc]
      have HJ := short_joined S1.out
      have z1 : (mk (t4 ++ [45])).size ≤ 1001 := by rw [mk_size, List.length_append]; simp; have := hlt4; omega
      have z2 : (mk (joined v.pre)).size ≤ 12040 := HJ
      have z0 : (mk t4).size ≤ 1000 := hlt4
      have c1 : ¬ 9223372036854775807 < (mk t4).size + 1 := by omega
      have c2 : ¬ 9223372036854775807 < (mk (t4 ++ [45])).size + (mk (joined v.pre)).size := by omega
      have hlt5 : (t4 ++ [45] ++ joined v.pre).length ≤ 20000 := by simp only [List.length_append, List.length_singleton]; have := hlt4; omega
      have HJT := Lib.hid (fun W hW => Ident.ref_text_any A v.pre.length c v.pre W hW S1.out)
      generalize joined v.pre = jj at e2 HR0 z2 c2 HJ hlt5 HJT
      generalize hu : t4 ++ [45] = uu at e1 e2 HR0 z1 c2 hlt5
      generalize hu2 : uu ++ jj = t5 at e2 HR0 hlt5
      clear hu hu2 HJ
      obtain ⟨_, _, x0, x1, x2, x3, x4⟩ := KX.out
      go_wp2_with fail
      refine (HJT.out _ R1.out).mono ?_
      rintro e w' ⟨rfl, rfl⟩
      go_upto_region 4 with (fail)
      clear e1 e2 z0 z1 z2 c1 c2 x0 x1 x2 x3 x4 HJT
      by_cases h1 : 0 < v.build.length
      · have e1 := mk_byte t5 43
        have e2 := mk_cat (t5 ++ [43]) (joined v.build)
        have HRT : Hid (t5 ++ rowText 43 v.build = t5 ++ [43] ++ joined v.build) := by unfold Hid; rw [rowText_some (by omega), List.append_assoc]
        have HJ := short_joined S2.out
        have z1 : (mk (t5 ++ [43])).size ≤ 20001 := by rw [mk_size, List.length_append]; simp; have := hlt5; omega
        have z2 : (mk (joined v.build)).size ≤ 12040 := HJ
        have z0 : (mk t5).size ≤ 20000 := hlt5
        have c1 : ¬ 9223372036854775807 < (mk t5).size + 1 := by omega
        have c2 : ¬ 9223372036854775807 < (mk (t5 ++ [43])).size + (mk (joined v.build)).size := by omega
        have hlt6 : (t5 ++ [43] ++ joined v.build).length ≤ 40000 := by simp only [List.length_append, List.length_singleton]; have := hlt5; omega
        have HJT := Lib.hid (fun W hW => Ident.ref_text_any B v.build.length d v.build W hW S2.out)
        generalize joined v.build = jj at e2 HRT z2 c2 HJ hlt6 HJT
        generalize hu : t5 ++ [43] = uu at e1 e2 HRT z1 c2 hlt6
        generalize hu2 : uu ++ jj = t6 at e2 HRT hlt6
        clear hu hu2 HJ
        obtain ⟨_, _, x0, x1, x2, x3, x4⟩ := KX.out
        go_wp2_with fail
        refine (HJT.out _ R2.out).mono ?_
        rintro e w' ⟨rfl, rfl⟩
        go_wp2
        go_ret
        exact ⟨by rw [HTX.out, HR0.out, HRT.out]; rfl, BX.out⟩
      · have HRT : Hid (t5 ++ rowText 43 v.build = t5) := by unfold Hid; rw [rowText_none (by omega), List.append_nil]
        obtain ⟨_, _, x0, x1, x2, x3, x4⟩ := KX.out
        go_wp2
        go_ret
        exact ⟨by rw [HTX.out, HR0.out, HRT.out]; rfl, BX.out⟩
    · have HR0 : Hid (t4 ++ rowText 45 v.pre = t4) := by unfold Hid; rw [rowText_none (by omega), List.append_nil]
      have hlt5 : t4.length ≤ 20000 := by omega
      obtain ⟨t5, ht5⟩ : ∃ t5, t4 = t5 := ⟨_, rfl⟩
      obtain ⟨_, _, x0, x1, x2, x3, x4⟩ := KX.out
      go_upto_region 4 with (fail)
      rw [ht5] at hlt5 ⊢
      have HR5 := Lib.hid (HR0.out.trans ht5)
      clear HR0
      have HR0 := HR5
      clear HR5 ht5
      clear x0 x1 x2 x3 x4
      by_cases h1 : 0 < v.build.length
      · have e1 := mk_byte t5 43
        have e2 := mk_cat (t5 ++ [43]) (joined v.build)
        have HRT : Hid (t5 ++ rowText 43 v.build = t5 ++ [43] ++ joined v.build) := by unfold Hid; rw [rowText_some (by omega), List.append_assoc]
        have HJ := short_joined S2.out
        have z1 : (mk (t5 ++ [43])).size ≤ 20001 := by rw [mk_size, List.length_append]; simp; have := hlt5; omega
        have z2 : (mk (joined v.build)).size ≤ 12040 := HJ
        have z0 : (mk t5).size ≤ 20000 := hlt5
        have c1 : ¬ 9223372036854775807 < (mk t5).size + 1 := by omega
        have c2 : ¬ 9223372036854775807 < (mk (t5 ++ [43])).size + (mk (joined v.build)).size := by omega
        have hlt6 : (t5 ++ [43] ++ joined v.build).length ≤ 40000 := by simp only [List.length_append, List.length_singleton]; have := hlt5; omega
        have HJT := Lib.hid (fun W hW => Ident.ref_text_any B v.build.length d v.build W hW S2.out)
        generalize joined v.build = jj at e2 HRT z2 c2 HJ hlt6 HJT
        generalize hu : t5 ++ [43] = uu at e1 e2 HRT z1 c2 hlt6
        generalize hu2 : uu ++ jj = t6 at e2 HRT hlt6
        clear hu hu2 HJ
        obtain ⟨_, _, x0, x1, x2, x3, x4⟩ := KX.out
        go_wp2_with fail
        refine (HJT.out _ R2.out).mono ?_
        rintro e w' ⟨rfl, rfl⟩
        go_wp2
        go_ret
        exact ⟨by rw [HTX.out, HR0.out, HRT.out]; rfl, BX.out⟩
      · have HRT : Hid (t5 ++ rowText 43 v.build = t5) := by unfold Hid; rw [rowText_none (by omega), List.append_nil]
        obtain ⟨_, _, x0, x1, x2, x3, x4⟩ := KX.out
        go_wp2
        go_ret
        exact ⟨by rw [HTX.out, HR0.out, HRT.out]; rfl, BX.out⟩
end Go.Proofs.YteiohoophiagoaaDoor.Semver
