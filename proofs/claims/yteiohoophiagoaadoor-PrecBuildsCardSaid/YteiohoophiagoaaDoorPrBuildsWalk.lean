/-
  PrecBuilds: builds change no precedence; a version without one stands first of those that are alike in the full order. Conditions: the rows read as lists of texts, of lengths that the form allows.
-/
import Derived.Test.YteiohoophiagoaaDoorPrAwake
import Derived.Test.YteiohoophiagoaaDoorPrAt
import Derived.Test.YteiohoophiagoaaDoorSvShort
namespace Go.Proofs.YteiohoophiagoaaDoor.Prec
open Go.RowKit Num Ident Semver

/-- What full order's answer is of a version without its build, and of the version. -/
theorem bare_told (v : Ver) : ∃ (z : Int) (b : Bool), fullV (bare v) v = z ∧ decide (z ≤ 0) = true ∧ (z == 0) = b ∧ ((v.build.length : Int) == 0) = b := by
  refine ⟨_, _, rfl, decide_eq_true (bare_le v), rfl, ?_⟩
  rw [Bool.eq_iff_iff, beq_iff_eq, beq_iff_eq, bare_zero]
  omega

set_option maxRecDepth 100000 in
set_option maxHeartbeats 3200000 in
theorem precBuilds_any (u : Ver) (A1 A2 : Option Addr) (c1 c2 : Nat) (v : Ver) (B1 B2 : Option Addr) (d1 d2 : Nat) (w : World) (ru : SRow w A1 u.pre.length u.pre) (su : SRow w A2 u.build.length u.build) (rv : SRow w B1 v.pre.length v.pre) (sv : SRow w B2 v.build.length v.build)
    (nu : u.pre.length ≤ maxLen) (mu : u.build.length ≤ maxLen) (nv : v.pre.length ≤ maxLen) (mv : v.build.length ≤ maxLen) :
    Calls Tryd.prog 5 #[.agg #[.int .u64 (u.a : Int), .int .u64 (u.b : Int), .int .u64 (u.c : Int), .slice A1 u.pre.length c1, .slice A2 u.build.length c2], .agg #[.int .u64 (v.a : Int), .int .u64 (v.b : Int), .int .u64 (v.c : Int), .slice B1 v.pre.length d1, .slice B2 v.build.length d2]] w fun e w' => e = .returned (.bool true) ∧ Below w.heap.size w w' := by
  have Ku : Hid (VAt ((w.alloc (.cells #[.int .u64 (u.a : Int), .int .u64 (u.b : Int), .int .u64 (u.c : Int), .slice A1 u.pre.length c1, .slice A2 u.build.length c2] 25)).alloc (.cells #[.int .u64 (v.a : Int), .int .u64 (v.b : Int), .int .u64 (v.c : Int), .slice B1 v.pre.length d1, .slice B2 v.build.length d2] 25)) (w.heap.size) u A1 c1 A2 c2) := (VAt.new w ru su 25).alloc _
  have Kv : Hid (VAt ((w.alloc (.cells #[.int .u64 (u.a : Int), .int .u64 (u.b : Int), .int .u64 (u.c : Int), .slice A1 u.pre.length c1, .slice A2 u.build.length c2] 25)).alloc (.cells #[.int .u64 (v.a : Int), .int .u64 (v.b : Int), .int .u64 (v.c : Int), .slice B1 v.pre.length d1, .slice B2 v.build.length d2] 25)) (w.heap.size + 1) v B1 d1 B2 d2) := by
    have k := VAt.new (w.alloc (.cells #[.int .u64 (u.a : Int), .int .u64 (u.b : Int), .int .u64 (u.c : Int), .slice A1 u.pre.length c1, .slice A2 u.build.length c2] 25)) (c := d1) (d := d2) (rv.kept ((Below.refl _ _).alloc (Nat.le_refl _) _)) (sv.kept ((Below.refl _ _).alloc (Nat.le_refl _) _)) 25
    rw [size_alloc] at k
    exact k
  have HB : Hid (Below w.heap.size w ((w.alloc (.cells #[.int .u64 (u.a : Int), .int .u64 (u.b : Int), .int .u64 (u.c : Int), .slice A1 u.pre.length c1, .slice A2 u.build.length c2] 25)).alloc (.cells #[.int .u64 (v.a : Int), .int .u64 (v.b : Int), .int .u64 (v.c : Int), .slice B1 v.pre.length d1, .slice B2 v.build.length d2] 25))) := ((Below.refl _ _).alloc (Nat.le_refl _) _).alloc (by simp) _
  have Nu := Lib.hid nu
  have Mu := Lib.hid mu
  have Nv := Lib.hid nv
  have Mv := Lib.hid mv
  clear ru su nu mu rv sv nv mv
  go_enter Tryd.func5, Tryd.ntmps5
  go_upto_region 1 with (fail)
  generalize ((w.alloc (.cells #[.int .u64 (u.a : Int), .int .u64 (u.b : Int), .int .u64 (u.c : Int), .slice A1 u.pre.length c1, .slice A2 u.build.length c2] 25)).alloc (.cells #[.int .u64 (v.a : Int), .int .u64 (v.b : Int), .int .u64 (v.c : Int), .slice B1 v.pre.length d1, .slice B2 v.build.length d2] 25)) = W0 at Ku Kv HB ⊢
  obtain ⟨u_0, u_1, u_2, u_3, u_4⟩ := Ku.out.cells
  obtain ⟨v_0, v_1, v_2, v_3, v_4⟩ := Kv.out.cells
  go_wp2_with fail
  refine (awake_any _).mono ?_
  rintro e W1 ⟨rfl, hb⟩
  replace Ku := Lib.hid (Ku.out.kept hb)
  replace Kv := Lib.hid (Kv.out.kept hb)
  replace HB := Lib.hid (HB.out.trans (hb.mono HB.out.size))
  clear hb
  clear u_0 u_1 u_2 u_3 u_4 v_0 v_1 v_2 v_3 v_4
  obtain ⟨u_0, u_1, u_2, u_3, u_4⟩ := Ku.out.cells
  obtain ⟨v_0, v_1, v_2, v_3, v_4⟩ := Kv.out.cells
  go_wp2_with fail
  refine (vshort_any u A1 c1 A2 c2 _ Ku.out.2.1 Ku.out.2.2 Nu.out Mu.out).mono ?_
  rintro e W2 ⟨rfl, hb⟩
  replace Ku := Lib.hid (Ku.out.kept hb)
  replace Kv := Lib.hid (Kv.out.kept hb)
  replace HB := Lib.hid (HB.out.trans (hb.mono HB.out.size))
  clear hb
  clear u_0 u_1 u_2 u_3 u_4 v_0 v_1 v_2 v_3 v_4
  obtain ⟨u_0, u_1, u_2, u_3, u_4⟩ := Ku.out.cells
  obtain ⟨v_0, v_1, v_2, v_3, v_4⟩ := Kv.out.cells
  by_cases hu : (shortB u.pre && shortB u.build) = true
  · rw [hu]
    rw [Bool.and_eq_true] at hu
    have Su := Lib.hid hu
    clear hu
    go_wp2_with fail
    refine (vshort_any v B1 d1 B2 d2 _ Kv.out.2.1 Kv.out.2.2 Nv.out Mv.out).mono ?_
    rintro e W3 ⟨rfl, hb⟩
    replace Ku := Lib.hid (Ku.out.kept hb)
    replace Kv := Lib.hid (Kv.out.kept hb)
    replace HB := Lib.hid (HB.out.trans (hb.mono HB.out.size))
    clear hb
    clear u_0 u_1 u_2 u_3 u_4 v_0 v_1 v_2 v_3 v_4
    obtain ⟨u_0, u_1, u_2, u_3, u_4⟩ := Ku.out.cells
    obtain ⟨v_0, v_1, v_2, v_3, v_4⟩ := Kv.out.cells
    by_cases hv : (shortB v.pre && shortB v.build) = true
    · rw [hv]
      rw [Bool.and_eq_true] at hv
      have Sv := Lib.hid hv
      clear hv
      have hlu := Ku.out.lt
      have hlv := Kv.out.lt
      go_upto_region 7 with (fail)
      have Kx : Hid (VAt (W3.alloc (.cells #[.int .u64 (u.a : Int), .int .u64 (u.b : Int), .int .u64 (u.c : Int), .slice A1 u.pre.length c1, .slice none 0 0] 25)) W3.heap.size (bare u) A1 c1 none 0) := VAt.new W3 (v := bare u) (A := A1) (c := c1) (B := none) (d := 0) Ku.out.2.1 (SRow.none_ _ _) 25
      replace Ku := Lib.hid (Ku.out.alloc (.cells #[.int .u64 (u.a : Int), .int .u64 (u.b : Int), .int .u64 (u.c : Int), .slice A1 u.pre.length c1, .slice none 0 0] 25))
      replace Kv := Lib.hid (Kv.out.alloc (.cells #[.int .u64 (u.a : Int), .int .u64 (u.b : Int), .int .u64 (u.c : Int), .slice A1 u.pre.length c1, .slice none 0 0] 25))
      have hwk := HB.out.size
      replace HB := Lib.hid (HB.out.alloc hwk (.cells #[.int .u64 (u.a : Int), .int .u64 (u.b : Int), .int .u64 (u.c : Int), .slice A1 u.pre.length c1, .slice none 0 0] 25))
      obtain ⟨bx, hbx⟩ : ∃ bx, W3.heap.size = bx := ⟨_, rfl⟩
      rw [hbx] at Kx ⊢
      clear hbx hlu hlv hwk
      clear u_0 u_1 u_2 u_3 u_4 v_0 v_1 v_2 v_3 v_4
      generalize (W3.alloc (.cells #[.int .u64 (u.a : Int), .int .u64 (u.b : Int), .int .u64 (u.c : Int), .slice A1 u.pre.length c1, .slice none 0 0] 25)) = W at Ku Kv Kx HB ⊢
      obtain ⟨z, b, hz, lz, ez, el⟩ := bare_told u
      have HZ := Lib.hid hz
      clear hz
      obtain ⟨c, hc⟩ : ∃ c, cmpV u v = c := ⟨_, rfl⟩
      have HC := Lib.hid hc
      clear hc
      have P1 : Hid (∀ W', VAt W' (w.heap.size) u A1 c1 A2 c2 → VAt W' (w.heap.size + 1) v B1 d1 B2 d2 → Calls Tryd.prog 16 #[.agg #[.int .u64 (u.a : Int), .int .u64 (u.b : Int), .int .u64 (u.c : Int), .slice A1 u.pre.length c1, .slice A2 u.build.length c2], .agg #[.int .u64 (v.a : Int), .int .u64 (v.b : Int), .int .u64 (v.c : Int), .slice B1 v.pre.length d1, .slice B2 v.build.length d2]] W' fun e w' => e = .returned (.int .i64 c) ∧ Below W'.heap.size W' w') := fun W' hu hv => by
        rw [← HC.out]; exact compare_any u v A1 A2 B1 B2 c1 c2 d1 d2 W' hu.2.1 hv.2.1 (Fit.of_short Su.out.1) (Fit.of_short Sv.out.1)
      have P2 : Hid (∀ W', VAt W' bx (bare u) A1 c1 none 0 → VAt W' (w.heap.size + 1) v B1 d1 B2 d2 → Calls Tryd.prog 16 #[.agg #[.int .u64 (u.a : Int), .int .u64 (u.b : Int), .int .u64 (u.c : Int), .slice A1 u.pre.length c1, .slice none 0 0], .agg #[.int .u64 (v.a : Int), .int .u64 (v.b : Int), .int .u64 (v.c : Int), .slice B1 v.pre.length d1, .slice B2 v.build.length d2]] W' fun e w' => e = .returned (.int .i64 c) ∧ Below W'.heap.size W' w') := fun W' hu hv => by
        rw [← HC.out, ← bare_cmp]; exact compare_any (bare u) v A1 none B1 B2 c1 0 d1 d2 W' hu.2.1 hv.2.1 (Fit.of_short Su.out.1) (Fit.of_short Sv.out.1)
      have P3 : Hid (∀ W', VAt W' (w.heap.size) u A1 c1 A2 c2 → VAt W' bx (bare u) A1 c1 none 0 → Calls Tryd.prog 16 #[.agg #[.int .u64 (u.a : Int), .int .u64 (u.b : Int), .int .u64 (u.c : Int), .slice A1 u.pre.length c1, .slice A2 u.build.length c2], .agg #[.int .u64 (u.a : Int), .int .u64 (u.b : Int), .int .u64 (u.c : Int), .slice A1 u.pre.length c1, .slice none 0 0]] W' fun e w' => e = .returned (.int .i64 0) ∧ Below W'.heap.size W' w') := fun W' hu hv => by
        rw [← bare_like u]; exact compare_any u (bare u) A1 A2 A1 none c1 c2 c1 0 W' hu.2.1 hv.2.1 (Fit.of_short Su.out.1) (Fit.of_short Su.out.1)
      have P4 : Hid (∀ W', VAt W' bx (bare u) A1 c1 none 0 → VAt W' (w.heap.size) u A1 c1 A2 c2 → Calls Tryd.prog 17 #[.agg #[.int .u64 (u.a : Int), .int .u64 (u.b : Int), .int .u64 (u.c : Int), .slice A1 u.pre.length c1, .slice none 0 0], .agg #[.int .u64 (u.a : Int), .int .u64 (u.b : Int), .int .u64 (u.c : Int), .slice A1 u.pre.length c1, .slice A2 u.build.length c2]] W' fun e w' => e = .returned (.int .i64 z) ∧ Below W'.heap.size W' w') := fun W' hu hv => by
        rw [← HZ.out]; exact full_any (bare u) u A1 none A1 A2 c1 0 c1 c2 W' hu.2.1 (SRow.none_ _ _) hv.2.1 hv.2.2 (Fit.of_short Su.out.1) Fit.nil (Fit.of_short Su.out.1) (Fit.of_short Su.out.2)
      refine wp_region_held_drew (S := fun w' => (w'.cell? ⟨w.heap.size, 0, none⟩ = some (.int .u64 (u.a : Int)) ∧ w'.cell? ⟨w.heap.size, 1, none⟩ = some (.int .u64 (u.b : Int)) ∧ w'.cell? ⟨w.heap.size, 2, none⟩ = some (.int .u64 (u.c : Int)) ∧ w'.cell? ⟨w.heap.size, 3, none⟩ = some (.slice A1 u.pre.length c1) ∧ w'.cell? ⟨w.heap.size, 4, none⟩ = some (.slice A2 u.build.length c2)) ∧ (w'.cell? ⟨(w.heap.size + 1), 0, none⟩ = some (.int .u64 (v.a : Int)) ∧ w'.cell? ⟨(w.heap.size + 1), 1, none⟩ = some (.int .u64 (v.b : Int)) ∧ w'.cell? ⟨(w.heap.size + 1), 2, none⟩ = some (.int .u64 (v.c : Int)) ∧ w'.cell? ⟨(w.heap.size + 1), 3, none⟩ = some (.slice B1 v.pre.length d1) ∧ w'.cell? ⟨(w.heap.size + 1), 4, none⟩ = some (.slice B2 v.build.length d2)) ∧ (w'.cell? ⟨bx, 0, none⟩ = some (.int .u64 (u.a : Int)) ∧ w'.cell? ⟨bx, 1, none⟩ = some (.int .u64 (u.b : Int)) ∧ w'.cell? ⟨bx, 2, none⟩ = some (.int .u64 (u.c : Int)) ∧ w'.cell? ⟨bx, 3, none⟩ = some (.slice A1 u.pre.length c1) ∧ w'.cell? ⟨bx, 4, none⟩ = some (.slice none 0 0))) (by kernel_rfl) ⟨Ku.out.cells, Kv.out.cells, Kx.out.cells⟩ (fun hHeld => ?_)
      replace Ku := Lib.hid (Ku.out.kept (Below.refl _ _).drew)
      replace Kv := Lib.hid (Kv.out.kept (Below.refl _ _).drew)
      replace Kx := Lib.hid (Kx.out.kept (Below.refl _ _).drew)
      replace HB := Lib.hid HB.out.drew
      refine wpAnyH_take (i := 0) (oi := { dst := some 18, op := Op.load 25 (Operand.tmp 2), type := 25, pos := "law.go:139", after := #[], guard := none }) (v := .agg #[.int .u64 (u.a : Int), .int .u64 (u.b : Int), .int .u64 (u.c : Int), .slice A1 u.pre.length c1, .slice A2 u.build.length c2]) rfl (by kernel_rfl) (by kernel_rfl) (by kernel_rfl) (fun _ _ _ h => h) (Or.inl ⟨by rfl, fun w' hS' => by go_simp⟩) (by assumption) ?_
      simp only [Act.put, List.setIfInBounds_toArray, List.set_cons_zero, List.set_cons_succ]
      refine wpAnyH_take (i := 1) (oi := { dst := some 19, op := Op.load 25 (Operand.tmp 3), type := 25, pos := "law.go:139", after := #[], guard := none }) (v := .agg #[.int .u64 (v.a : Int), .int .u64 (v.b : Int), .int .u64 (v.c : Int), .slice B1 v.pre.length d1, .slice B2 v.build.length d2]) rfl (by kernel_rfl) (by kernel_rfl) (by kernel_rfl) (fun _ _ _ h => h) (Or.inl ⟨by rfl, fun w' hS' => by go_simp⟩) (by assumption) ?_
      simp only [Act.put, List.setIfInBounds_toArray, List.set_cons_zero, List.set_cons_succ]
      refine wpAnyH_take (i := 3) (oi := { dst := some 21, op := Op.load 25 (Operand.tmp 5), type := 25, pos := "law.go:139", after := #[], guard := none }) (v := .agg #[.int .u64 (u.a : Int), .int .u64 (u.b : Int), .int .u64 (u.c : Int), .slice A1 u.pre.length c1, .slice none 0 0]) rfl (by kernel_rfl) (by kernel_rfl) (by kernel_rfl) (fun _ _ _ h => h) (Or.inl ⟨by rfl, fun w' hS' => by go_simp⟩) (by assumption) ?_
      simp only [Act.put, List.setIfInBounds_toArray, List.set_cons_zero, List.set_cons_succ]
      refine wpAnyH_take (i := 4) (oi := { dst := some 22, op := Op.load 25 (Operand.tmp 3), type := 25, pos := "law.go:139", after := #[], guard := none }) (v := .agg #[.int .u64 (v.a : Int), .int .u64 (v.b : Int), .int .u64 (v.c : Int), .slice B1 v.pre.length d1, .slice B2 v.build.length d2]) rfl (by kernel_rfl) (by kernel_rfl) (by kernel_rfl) (fun _ _ _ h => h) (Or.inl ⟨by rfl, fun w' hS' => by go_simp⟩) (by assumption) ?_
      simp only [Act.put, List.setIfInBounds_toArray, List.set_cons_zero, List.set_cons_succ]
      refine wpAnyH_ready (rs := [2]) (by kernel_rfl) (by simp) ?_
      refine AllReadyH.cons (o := { dst := some 20, op := Op.call { callee := Callee.value (Operand.func 16), args := #[Operand.tmp 18, Operand.tmp 19], argTypes := #[25, 25] }, type := 3, pos := "law.go:139", after := #[{ on := 0, ground := Ground.data }, { on := 1, ground := Ground.data }], guard := none }) rfl (fun K hK => ?_) AllReadyH.nil
      go_simp
      refine (P1.out _ Ku.out Kv.out).mono ?_
      rintro e V1 ⟨rfl, hb⟩
      replace Ku := Lib.hid (Ku.out.kept hb)
      replace Kv := Lib.hid (Kv.out.kept hb)
      replace Kx := Lib.hid (Kx.out.kept hb)
      replace HB := Lib.hid (HB.out.trans (hb.mono HB.out.size))
      clear hb
      refine hK.out _ _ ⟨Ku.out.cells, Kv.out.cells, Kx.out.cells⟩ (fun hHeld => ?_)
      clear hK K
      try simp only [Act.put, List.setIfInBounds_toArray, List.set_cons_zero, List.set_cons_succ]
      refine wpAnyH_ready (rs := [5]) (by kernel_rfl) (by simp) ?_
      refine AllReadyH.cons (o := { dst := some 23, op := Op.call { callee := Callee.value (Operand.func 16), args := #[Operand.tmp 21, Operand.tmp 22], argTypes := #[25, 25] }, type := 3, pos := "law.go:139", after := #[{ on := 3, ground := Ground.data }, { on := 4, ground := Ground.data }, { on := 2, ground := Ground.chain }], guard := none }) rfl (fun K hK => ?_) AllReadyH.nil
      go_simp
      refine (P2.out _ Kx.out Kv.out).mono ?_
      rintro e V2 ⟨rfl, hb⟩
      replace Ku := Lib.hid (Ku.out.kept hb)
      replace Kv := Lib.hid (Kv.out.kept hb)
      replace Kx := Lib.hid (Kx.out.kept hb)
      replace HB := Lib.hid (HB.out.trans (hb.mono HB.out.size))
      clear hb
      refine hK.out _ _ ⟨Ku.out.cells, Kv.out.cells, Kx.out.cells⟩ (fun hHeld => ?_)
      clear hK K
      try simp only [Act.put, List.setIfInBounds_toArray, List.set_cons_zero, List.set_cons_succ]
      refine wpAnyH_take (i := 6) (oi := { dst := some 24, op := Op.binOp BinOp.eql 3 (Operand.tmp 20) (Operand.tmp 23) 3, type := 4, pos := "law.go:139", after := #[{ on := 2, ground := Ground.data }, { on := 5, ground := Ground.data }], guard := none }) (v := .bool true) rfl (by kernel_rfl) (by kernel_rfl) (by kernel_rfl) (fun _ _ _ h => h) (Or.inl ⟨by rfl, fun w' hS' => by go_simp⟩) (by assumption) ?_
      simp only [Act.put, List.setIfInBounds_toArray, List.set_cons_zero, List.set_cons_succ]
      refine wpAnyH_take (i := 7) (oi := { dst := some 25, op := Op.move (Operand.tmp 24), type := 4, pos := "law.go:139", after := #[{ on := 6, ground := Ground.data }, { on := 5, ground := Ground.chain }], guard := none }) (v := .bool true) rfl (by kernel_rfl) (by kernel_rfl) (by kernel_rfl) (fun _ _ _ h => h) (Or.inl ⟨by rfl, fun w' hS' => by go_simp⟩) (by assumption) ?_
      simp only [Act.put, List.setIfInBounds_toArray, List.set_cons_zero, List.set_cons_succ]
      refine wpAnyH_take (i := 8) (oi := { dst := some 26, op := Op.load 25 (Operand.tmp 2), type := 25, pos := "law.go:139", after := #[{ on := 7, ground := Ground.guard }], guard := some (7, true) }) (v := .agg #[.int .u64 (u.a : Int), .int .u64 (u.b : Int), .int .u64 (u.c : Int), .slice A1 u.pre.length c1, .slice A2 u.build.length c2]) rfl (by kernel_rfl) (by kernel_rfl) (by kernel_rfl) (fun _ _ _ h => h) (Or.inl ⟨by rfl, fun w' hS' => by go_simp⟩) (by assumption) ?_
      simp only [Act.put, List.setIfInBounds_toArray, List.set_cons_zero, List.set_cons_succ]
      refine wpAnyH_take (i := 9) (oi := { dst := some 27, op := Op.load 25 (Operand.tmp 5), type := 25, pos := "law.go:139", after := #[{ on := 7, ground := Ground.guard }], guard := some (7, true) }) (v := .agg #[.int .u64 (u.a : Int), .int .u64 (u.b : Int), .int .u64 (u.c : Int), .slice A1 u.pre.length c1, .slice none 0 0]) rfl (by kernel_rfl) (by kernel_rfl) (by kernel_rfl) (fun _ _ _ h => h) (Or.inl ⟨by rfl, fun w' hS' => by go_simp⟩) (by assumption) ?_
      simp only [Act.put, List.setIfInBounds_toArray, List.set_cons_zero, List.set_cons_succ]
      refine wpAnyH_ready (rs := [10]) (by kernel_rfl) (by simp) ?_
      refine AllReadyH.cons (o := { dst := some 28, op := Op.call { callee := Callee.value (Operand.func 16), args := #[Operand.tmp 26, Operand.tmp 27], argTypes := #[25, 25] }, type := 3, pos := "law.go:139", after := #[{ on := 8, ground := Ground.data }, { on := 9, ground := Ground.data }, { on := 7, ground := Ground.chain }, { on := 7, ground := Ground.guard }], guard := some (7, true) }) rfl (fun K hK => ?_) AllReadyH.nil
      go_simp
      refine (P3.out _ Ku.out Kx.out).mono ?_
      rintro e V3 ⟨rfl, hb⟩
      replace Ku := Lib.hid (Ku.out.kept hb)
      replace Kv := Lib.hid (Kv.out.kept hb)
      replace Kx := Lib.hid (Kx.out.kept hb)
      replace HB := Lib.hid (HB.out.trans (hb.mono HB.out.size))
      clear hb
      refine hK.out _ _ ⟨Ku.out.cells, Kv.out.cells, Kx.out.cells⟩ (fun hHeld => ?_)
      clear hK K
      try simp only [Act.put, List.setIfInBounds_toArray, List.set_cons_zero, List.set_cons_succ]
      refine wpAnyH_take (i := 11) (oi := { dst := some 29, op := Op.binOp BinOp.eql 3 (Operand.tmp 28) (Operand.const (Value.int IntKind.i64 0)) 3, type := 4, pos := "law.go:139", after := #[{ on := 10, ground := Ground.data }, { on := 7, ground := Ground.guard }], guard := some (7, true) }) (v := .bool true) rfl (by kernel_rfl) (by kernel_rfl) (by kernel_rfl) (fun _ _ _ h => h) (Or.inl ⟨by rfl, fun w' hS' => by go_simp⟩) (by assumption) ?_
      simp only [Act.put, List.setIfInBounds_toArray, List.set_cons_zero, List.set_cons_succ]
      refine wpAnyH_take (i := 12) (oi := { dst := some 30, op := Op.pick (Operand.tmp 25) (Operand.tmp 29) (Operand.const (Value.bool false)), type := 4, pos := "law.go:139", after := #[{ on := 7, ground := Ground.data }, { on := 11, ground := Ground.data }], guard := none }) (v := .bool true) rfl (by kernel_rfl) (by kernel_rfl) (by kernel_rfl) (fun _ _ _ h => h) (Or.inl ⟨by rfl, fun w' hS' => by go_simp⟩) (by assumption) ?_
      simp only [Act.put, List.setIfInBounds_toArray, List.set_cons_zero, List.set_cons_succ]
      refine wpAnyH_take (i := 13) (oi := { dst := some 31, op := Op.move (Operand.tmp 30), type := 4, pos := "law.go:139", after := #[{ on := 12, ground := Ground.data }, { on := 10, ground := Ground.chain }], guard := none }) (v := .bool true) rfl (by kernel_rfl) (by kernel_rfl) (by kernel_rfl) (fun _ _ _ h => h) (Or.inl ⟨by rfl, fun w' hS' => by go_simp⟩) (by assumption) ?_
      simp only [Act.put, List.setIfInBounds_toArray, List.set_cons_zero, List.set_cons_succ]
      refine wpAnyH_take (i := 14) (oi := { dst := some 32, op := Op.load 25 (Operand.tmp 5), type := 25, pos := "law.go:139", after := #[{ on := 13, ground := Ground.guard }], guard := some (13, true) }) (v := .agg #[.int .u64 (u.a : Int), .int .u64 (u.b : Int), .int .u64 (u.c : Int), .slice A1 u.pre.length c1, .slice none 0 0]) rfl (by kernel_rfl) (by kernel_rfl) (by kernel_rfl) (fun _ _ _ h => h) (Or.inl ⟨by rfl, fun w' hS' => by go_simp⟩) (by assumption) ?_
      simp only [Act.put, List.setIfInBounds_toArray, List.set_cons_zero, List.set_cons_succ]
      refine wpAnyH_take (i := 15) (oi := { dst := some 33, op := Op.load 25 (Operand.tmp 2), type := 25, pos := "law.go:139", after := #[{ on := 13, ground := Ground.guard }], guard := some (13, true) }) (v := .agg #[.int .u64 (u.a : Int), .int .u64 (u.b : Int), .int .u64 (u.c : Int), .slice A1 u.pre.length c1, .slice A2 u.build.length c2]) rfl (by kernel_rfl) (by kernel_rfl) (by kernel_rfl) (fun _ _ _ h => h) (Or.inl ⟨by rfl, fun w' hS' => by go_simp⟩) (by assumption) ?_
      simp only [Act.put, List.setIfInBounds_toArray, List.set_cons_zero, List.set_cons_succ]
      refine wpAnyH_ready (rs := [16]) (by kernel_rfl) (by simp) ?_
      refine AllReadyH.cons (o := { dst := some 34, op := Op.call { callee := Callee.value (Operand.func 17), args := #[Operand.tmp 32, Operand.tmp 33], argTypes := #[25, 25] }, type := 3, pos := "law.go:139", after := #[{ on := 14, ground := Ground.data }, { on := 15, ground := Ground.data }, { on := 13, ground := Ground.chain }, { on := 13, ground := Ground.guard }], guard := some (13, true) }) rfl (fun K hK => ?_) AllReadyH.nil
      go_simp
      refine (P4.out _ Kx.out Ku.out).mono ?_
      rintro e V4 ⟨rfl, hb⟩
      replace Ku := Lib.hid (Ku.out.kept hb)
      replace Kv := Lib.hid (Kv.out.kept hb)
      replace Kx := Lib.hid (Kx.out.kept hb)
      replace HB := Lib.hid (HB.out.trans (hb.mono HB.out.size))
      clear hb
      refine hK.out _ _ ⟨Ku.out.cells, Kv.out.cells, Kx.out.cells⟩ (fun hHeld => ?_)
      clear hK K
      try simp only [Act.put, List.setIfInBounds_toArray, List.set_cons_zero, List.set_cons_succ]
      refine wpAnyH_take (i := 17) (oi := { dst := some 35, op := Op.binOp BinOp.leq 3 (Operand.tmp 34) (Operand.const (Value.int IntKind.i64 0)) 3, type := 4, pos := "law.go:139", after := #[{ on := 16, ground := Ground.data }, { on := 13, ground := Ground.guard }], guard := some (13, true) }) (v := .bool true) rfl (by kernel_rfl) (by kernel_rfl) (by kernel_rfl) (fun _ _ _ h => h) (Or.inl ⟨by rfl, fun w' hS' => by go_simp⟩) (by assumption) ?_
      simp only [Act.put, List.setIfInBounds_toArray, List.set_cons_zero, List.set_cons_succ]
      refine wpAnyH_take (i := 18) (oi := { dst := some 36, op := Op.pick (Operand.tmp 31) (Operand.tmp 35) (Operand.const (Value.bool false)), type := 4, pos := "law.go:139", after := #[{ on := 13, ground := Ground.data }, { on := 17, ground := Ground.data }], guard := none }) (v := .bool true) rfl (by kernel_rfl) (by kernel_rfl) (by kernel_rfl) (fun _ _ _ h => h) (Or.inl ⟨by rfl, fun w' hS' => by go_simp⟩) (by assumption) ?_
      simp only [Act.put, List.setIfInBounds_toArray, List.set_cons_zero, List.set_cons_succ]
      refine wpAnyH_take (i := 19) (oi := { dst := some 37, op := Op.move (Operand.tmp 36), type := 4, pos := "law.go:139", after := #[{ on := 18, ground := Ground.data }, { on := 16, ground := Ground.chain }], guard := none }) (v := .bool true) rfl (by kernel_rfl) (by kernel_rfl) (by kernel_rfl) (fun _ _ _ h => h) (Or.inl ⟨by rfl, fun w' hS' => by go_simp⟩) (by assumption) ?_
      simp only [Act.put, List.setIfInBounds_toArray, List.set_cons_zero, List.set_cons_succ]
      refine wpAnyH_take (i := 20) (oi := { dst := some 38, op := Op.load 25 (Operand.tmp 5), type := 25, pos := "law.go:139", after := #[{ on := 19, ground := Ground.guard }], guard := some (19, true) }) (v := .agg #[.int .u64 (u.a : Int), .int .u64 (u.b : Int), .int .u64 (u.c : Int), .slice A1 u.pre.length c1, .slice none 0 0]) rfl (by kernel_rfl) (by kernel_rfl) (by kernel_rfl) (fun _ _ _ h => h) (Or.inl ⟨by rfl, fun w' hS' => by go_simp⟩) (by assumption) ?_
      simp only [Act.put, List.setIfInBounds_toArray, List.set_cons_zero, List.set_cons_succ]
      refine wpAnyH_take (i := 21) (oi := { dst := some 39, op := Op.load 25 (Operand.tmp 2), type := 25, pos := "law.go:139", after := #[{ on := 19, ground := Ground.guard }], guard := some (19, true) }) (v := .agg #[.int .u64 (u.a : Int), .int .u64 (u.b : Int), .int .u64 (u.c : Int), .slice A1 u.pre.length c1, .slice A2 u.build.length c2]) rfl (by kernel_rfl) (by kernel_rfl) (by kernel_rfl) (fun _ _ _ h => h) (Or.inl ⟨by rfl, fun w' hS' => by go_simp⟩) (by assumption) ?_
      simp only [Act.put, List.setIfInBounds_toArray, List.set_cons_zero, List.set_cons_succ]
      refine wpAnyH_take (i := 24) (oi := { dst := some 42, op := Op.fieldAddr 25 (Operand.tmp 2) 4, type := 0, pos := "law.go:139", after := #[{ on := 19, ground := Ground.guard }], guard := some (19, true) }) (v := .pointer (some ⟨w.heap.size, 4, none⟩)) rfl (by kernel_rfl) (by kernel_rfl) (by kernel_rfl) (fun _ _ _ h => h) (Or.inl ⟨by rfl, fun w' hS' => by go_simp⟩) (by assumption) ?_
      simp only [Act.put, List.setIfInBounds_toArray, List.set_cons_zero, List.set_cons_succ]
      refine wpAnyH_take (i := 25) (oi := { dst := some 43, op := Op.load 23 (Operand.tmp 42), type := 23, pos := "law.go:139", after := #[{ on := 24, ground := Ground.data }, { on := 19, ground := Ground.guard }], guard := some (19, true) }) (v := .slice A2 u.build.length c2) rfl (by kernel_rfl) (by kernel_rfl) (by kernel_rfl) (fun _ _ _ h => h) (Or.inl ⟨by rfl, fun w' hS' => by go_simp⟩) (by assumption) ?_
      simp only [Act.put, List.setIfInBounds_toArray, List.set_cons_zero, List.set_cons_succ]
      refine wpAnyH_take (i := 26) (oi := { dst := some 44, op := Op.call { callee := Callee.builtin Builtin.len, args := #[Operand.tmp 43], argTypes := #[23] }, type := 3, pos := "law.go:139", after := #[{ on := 25, ground := Ground.data }, { on := 19, ground := Ground.guard }], guard := some (19, true) }) (v := .int .i64 (u.build.length : Int)) rfl (by kernel_rfl) (by kernel_rfl) (by kernel_rfl) (fun _ _ _ h => h) (Or.inl ⟨by rfl, fun w' hS' => by go_simp⟩) (by assumption) ?_
      simp only [Act.put, List.setIfInBounds_toArray, List.set_cons_zero, List.set_cons_succ]
      refine wpAnyH_take (i := 27) (oi := { dst := some 45, op := Op.binOp BinOp.eql 3 (Operand.tmp 44) (Operand.const (Value.int IntKind.i64 0)) 3, type := 4, pos := "law.go:139", after := #[{ on := 26, ground := Ground.data }, { on := 19, ground := Ground.guard }], guard := some (19, true) }) (v := .bool b) rfl (by kernel_rfl) (by kernel_rfl) (by kernel_rfl) (fun _ _ _ h => h) (Or.inl ⟨by rfl, fun w' hS' => by go_simp⟩) (by assumption) ?_
      simp only [Act.put, List.setIfInBounds_toArray, List.set_cons_zero, List.set_cons_succ]
      refine wpAnyH_ready (rs := [22]) (by kernel_rfl) (by simp) ?_
      refine AllReadyH.cons (o := { dst := some 40, op := Op.call { callee := Callee.value (Operand.func 17), args := #[Operand.tmp 38, Operand.tmp 39], argTypes := #[25, 25] }, type := 3, pos := "law.go:139", after := #[{ on := 20, ground := Ground.data }, { on := 21, ground := Ground.data }, { on := 19, ground := Ground.chain }, { on := 19, ground := Ground.guard }], guard := some (19, true) }) rfl (fun K hK => ?_) AllReadyH.nil
      go_simp
      refine (P4.out _ Kx.out Ku.out).mono ?_
      rintro e V5 ⟨rfl, hb⟩
      replace Ku := Lib.hid (Ku.out.kept hb)
      replace Kv := Lib.hid (Kv.out.kept hb)
      replace Kx := Lib.hid (Kx.out.kept hb)
      replace HB := Lib.hid (HB.out.trans (hb.mono HB.out.size))
      clear hb
      refine hK.out _ _ ⟨Ku.out.cells, Kv.out.cells, Kx.out.cells⟩ (fun hHeld => ?_)
      clear hK K
      try simp only [Act.put, List.setIfInBounds_toArray, List.set_cons_zero, List.set_cons_succ]
      refine wpAnyH_take (i := 23) (oi := { dst := some 41, op := Op.binOp BinOp.eql 3 (Operand.tmp 40) (Operand.const (Value.int IntKind.i64 0)) 3, type := 4, pos := "law.go:139", after := #[{ on := 22, ground := Ground.data }, { on := 19, ground := Ground.guard }], guard := some (19, true) }) (v := .bool b) rfl (by kernel_rfl) (by kernel_rfl) (by kernel_rfl) (fun _ _ _ h => h) (Or.inl ⟨by rfl, fun w' hS' => by go_simp⟩) (by assumption) ?_
      simp only [Act.put, List.setIfInBounds_toArray, List.set_cons_zero, List.set_cons_succ]
      refine wpAnyH_take (i := 28) (oi := { dst := some 46, op := Op.binOp BinOp.eql 4 (Operand.tmp 41) (Operand.tmp 45) 4, type := 4, pos := "law.go:139", after := #[{ on := 23, ground := Ground.data }, { on := 27, ground := Ground.data }, { on := 19, ground := Ground.guard }], guard := some (19, true) }) (v := .bool true) rfl (by kernel_rfl) (by kernel_rfl) (by kernel_rfl) (fun _ _ _ h => h) (Or.inl ⟨by rfl, fun w' hS' => by go_simp⟩) (by assumption) ?_
      simp only [Act.put, List.setIfInBounds_toArray, List.set_cons_zero, List.set_cons_succ]
      refine wpAnyH_take (i := 29) (oi := { dst := some 47, op := Op.pick (Operand.tmp 37) (Operand.tmp 46) (Operand.const (Value.bool false)), type := 4, pos := "law.go:139", after := #[{ on := 19, ground := Ground.data }, { on := 28, ground := Ground.data }], guard := none }) (v := .bool true) rfl (by kernel_rfl) (by kernel_rfl) (by kernel_rfl) (fun _ _ _ h => h) (Or.inl ⟨by rfl, fun w' hS' => by go_simp⟩) (by assumption) ?_
      simp only [Act.put, List.setIfInBounds_toArray, List.set_cons_zero, List.set_cons_succ]
      refine wpAnyH_take (i := 30) (oi := { dst := some 4, op := Op.assign (Operand.tmp 47), type := 4, pos := "law.go:139", after := #[{ on := 29, ground := Ground.data }, { on := 22, ground := Ground.chain }, { on := 0, ground := Ground.phase }, { on := 1, ground := Ground.phase }, { on := 2, ground := Ground.phase }, { on := 3, ground := Ground.phase }, { on := 4, ground := Ground.phase }, { on := 5, ground := Ground.phase }, { on := 6, ground := Ground.phase }, { on := 7, ground := Ground.phase }, { on := 8, ground := Ground.phase }, { on := 9, ground := Ground.phase }, { on := 10, ground := Ground.phase }, { on := 11, ground := Ground.phase }, { on := 12, ground := Ground.phase }, { on := 13, ground := Ground.phase }, { on := 14, ground := Ground.phase }, { on := 15, ground := Ground.phase }, { on := 16, ground := Ground.phase }, { on := 17, ground := Ground.phase }, { on := 18, ground := Ground.phase }, { on := 19, ground := Ground.phase }, { on := 20, ground := Ground.phase }, { on := 21, ground := Ground.phase }, { on := 22, ground := Ground.phase }, { on := 23, ground := Ground.phase }, { on := 24, ground := Ground.phase }, { on := 25, ground := Ground.phase }, { on := 26, ground := Ground.phase }, { on := 27, ground := Ground.phase }, { on := 28, ground := Ground.phase }, { on := 29, ground := Ground.phase }], guard := none }) (v := .bool true) rfl (by kernel_rfl) (by kernel_rfl) (by kernel_rfl) (fun _ _ _ h => h) (Or.inl ⟨by rfl, fun w' hS' => by go_simp⟩) (by assumption) ?_
      simp only [Act.put, List.setIfInBounds_toArray, List.set_cons_zero, List.set_cons_succ]
      refine wpAnyH_done (by kernel_rfl) ?_ _
      go_wp2
      go_ret
      exact ⟨rfl, HB.out⟩
    · rw [Bool.not_eq_true] at hv
      rw [hv]
      clear hv
      go_wp2
      go_ret
      exact ⟨rfl, HB.out⟩
  · rw [Bool.not_eq_true] at hu
    rw [hu]
    clear hu
    go_wp2
    go_ret
    exact ⟨rfl, HB.out⟩
end Go.Proofs.YteiohoophiagoaaDoor.Prec
