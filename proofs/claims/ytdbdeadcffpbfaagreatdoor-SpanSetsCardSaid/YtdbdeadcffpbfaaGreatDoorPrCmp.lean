/-
  How rows ahead of release stand (prec.releases), how versions stand by precedence and in the full order (prec.Compare, prec.Full). Conditions: the rows read as the lists pre and build; the rows' and the texts' lengths are those that the form allows.
-/
import Derived.Test.YtdbdeadcffpbfaaGreatDoorPrCores
import Derived.Deep.CutBlock
import Derived.Deep.DeepCutAuto
import Derived.Deep.RegionHeld3
namespace Go.Proofs.YtdbdeadcffpbfaaGreatDoor.Prec
open Go.RowKit Num Ident Semver

/-- A row of lengths that the form allows. -/
def Fit (xs : List (List UInt8)) : Prop := xs.length ≤ maxLen ∧ ∀ x ∈ xs, x.length ≤ maxLen
theorem Fit.of_short {xs : List (List UInt8)} (h : shortB xs = true) : Fit xs := by
  rw [shortB_iff] at h
  exact ⟨by unfold maxLen; omega, fun x hx => by have := h.2 x hx; unfold maxLen; omega⟩
theorem Fit.nil : Fit [] := ⟨by unfold maxLen; simp, fun x hx => by simp at hx⟩
theorem Fit.zero : Fit [[48]] := ⟨by unfold maxLen; simp, fun x hx => by simp at hx; subst hx; unfold maxLen; simp⟩
set_option maxRecDepth 100000 in
set_option maxHeartbeats 1600000 in
theorem releases_anyD (A : Option Addr) (ca : Nat) (xs : List (List UInt8)) (B : Option Addr) (cb : Nat) (ys : List (List UInt8)) (w : World) (hA : SRow w A xs.length xs) (hB : SRow w B ys.length ys) (fx : Fit xs) (fy : Fit ys) :
    Calls Tryz.prog 50 #[.slice A xs.length ca, .slice B ys.length cb] w fun e w' => e = .returned (.int .i64 (cmpPre xs ys)) ∧ BelowD w.heap.size w w' := by
  have HA := Lib.hid hA
  have HB := Lib.hid hB
  have FX := Lib.hid fx
  have FY := Lib.hid fy
  have hx := fx.1
  have hy := fy.1
  unfold maxLen at hx hy
  clear hA hB fx fy
  by_cases h1 : xs.length = 0
  · by_cases h2 : ys.length = 0
    · have HF := Lib.hid (cmpPre_rows (x := xs) (y := ys) ⟨fun _ => h2, fun _ => h1⟩)
      have K : Hid (∀ W, W = w → Calls Tryz.prog 60 #[.slice A xs.length ca, .slice B ys.length cb] W fun e w' => e = .returned (.int .i64 (cmpPre xs ys)) ∧ BelowD w.heap.size w w') := by
        rintro W rfl; rw [HF.out]; exact rows_anyD A _ ca xs B _ cb ys W HA.out HB.out FX.out.1 FY.out.1 FX.out.2 FY.out.2
      rw [h1, h2] at K
      clear HF
      go_enter Tryz.func50, Tryz.ntmps50
      go_wp2_with fail
      refine (K.out _ rfl).mono ?_
      rintro e w1 ⟨rfl, hb1⟩
      go_wp2
      go_ret
      exact ⟨rfl, hb1⟩
    · have HF := Lib.hid (cmpPre_one h1 h2)
      have h3 : 0 < ys.length := by omega
      go_enter Tryz.func50, Tryz.ntmps50
      go_wp2
      go_ret
      exact ⟨by rw [HF.out]; rfl, BelowD.refl _ _⟩
  · have h3 : 0 < xs.length := by omega
    by_cases h2 : ys.length = 0
    · have HF := Lib.hid (cmpPre_two h1 h2)
      go_enter Tryz.func50, Tryz.ntmps50
      go_wp2
      go_ret
      exact ⟨by rw [HF.out]; rfl, BelowD.refl _ _⟩
    · have h4 : 0 < ys.length := by omega
      have HF := Lib.hid (cmpPre_rows (x := xs) (y := ys) ⟨fun h => absurd h h1, fun h => absurd h h2⟩)
      have K : Hid (∀ W, W = w → Calls Tryz.prog 60 #[.slice A xs.length ca, .slice B ys.length cb] W fun e w' => e = .returned (.int .i64 (cmpPre xs ys)) ∧ BelowD w.heap.size w w') := by
        rintro W rfl; rw [HF.out]; exact rows_anyD A _ ca xs B _ cb ys W HA.out HB.out FX.out.1 FY.out.1 FX.out.2 FY.out.2
      clear HF
      go_enter Tryz.func50, Tryz.ntmps50
      go_wp2_with fail
      refine (K.out _ rfl).mono ?_
      rintro e w1 ⟨rfl, hb1⟩
      go_wp2
      go_ret
      exact ⟨rfl, hb1⟩
theorem releases_any (A : Option Addr) (ca : Nat) (xs : List (List UInt8)) (B : Option Addr) (cb : Nat) (ys : List (List UInt8)) (w : World) (hA : SRow w A xs.length xs) (hB : SRow w B ys.length ys) (fx : Fit xs) (fy : Fit ys) :
    Calls Tryz.prog 50 #[.slice A xs.length ca, .slice B ys.length cb] w fun e w' => e = .returned (.int .i64 (cmpPre xs ys)) ∧ Below w.heap.size w w' := dropD (releases_anyD A ca xs B cb ys w hA hB fx fy)
set_option maxRecDepth 100000 in
set_option maxHeartbeats 3200000 in
theorem compare_anyD (u v : Ver) (A1 A2 B1 B2 : Option Addr) (c1 c2 d1 d2 : Nat) (w : World) (r1 : SRow w A1 u.pre.length u.pre) (q1 : SRow w B1 v.pre.length v.pre) (f1 : Fit u.pre) (g1 : Fit v.pre) :
    Calls Tryz.prog 35 #[.agg #[.int .u64 (u.a : Int), .int .u64 (u.b : Int), .int .u64 (u.c : Int), .slice A1 u.pre.length c1, .slice A2 u.build.length c2], .agg #[.int .u64 (v.a : Int), .int .u64 (v.b : Int), .int .u64 (v.c : Int), .slice B1 v.pre.length d1, .slice B2 v.build.length d2]] w fun e w' => e = .returned (.int .i64 (cmpV u v)) ∧ BelowD w.heap.size w w' := by
  have HB0 : Hid (BelowD w.heap.size w ((w.alloc (.cells #[.int .u64 (u.a : Int), .int .u64 (u.b : Int), .int .u64 (u.c : Int), .slice A1 u.pre.length c1, .slice A2 u.build.length c2] 32)).alloc (.cells #[.int .u64 (v.a : Int), .int .u64 (v.b : Int), .int .u64 (v.c : Int), .slice B1 v.pre.length d1, .slice B2 v.build.length d2] 32))) := ((BelowD.refl _ _).alloc (Nat.le_refl _) _).alloc (by simp) _
  have K1 : Hid (At5 ((w.alloc (.cells #[.int .u64 (u.a : Int), .int .u64 (u.b : Int), .int .u64 (u.c : Int), .slice A1 u.pre.length c1, .slice A2 u.build.length c2] 32)).alloc (.cells #[.int .u64 (v.a : Int), .int .u64 (v.b : Int), .int .u64 (v.c : Int), .slice B1 v.pre.length d1, .slice B2 v.build.length d2] 32)) w.heap.size (.int .u64 (u.a : Int)) (.int .u64 (u.b : Int)) (.int .u64 (u.c : Int)) (.slice A1 u.pre.length c1) (.slice A2 u.build.length c2)) := (At5.new w 32 _ _ _ _ _).kept ((Below.refl _ _).alloc (Nat.le_refl _) _) (by simp)
  have K2 : Hid (At5 ((w.alloc (.cells #[.int .u64 (u.a : Int), .int .u64 (u.b : Int), .int .u64 (u.c : Int), .slice A1 u.pre.length c1, .slice A2 u.build.length c2] 32)).alloc (.cells #[.int .u64 (v.a : Int), .int .u64 (v.b : Int), .int .u64 (v.c : Int), .slice B1 v.pre.length d1, .slice B2 v.build.length d2] 32)) (w.heap.size + 1) (.int .u64 (v.a : Int)) (.int .u64 (v.b : Int)) (.int .u64 (v.c : Int)) (.slice B1 v.pre.length d1) (.slice B2 v.build.length d2)) := by
    have := At5.new (w.alloc (.cells #[.int .u64 (u.a : Int), .int .u64 (u.b : Int), .int .u64 (u.c : Int), .slice A1 u.pre.length c1, .slice A2 u.build.length c2] 32)) 32 (.int .u64 (v.a : Int)) (.int .u64 (v.b : Int)) (.int .u64 (v.c : Int)) (.slice B1 v.pre.length d1) (.slice B2 v.build.length d2)
    rw [size_alloc] at this; exact this
  have R1 := Lib.hid r1
  have Q1 := Lib.hid q1
  have F1 := Lib.hid f1
  have G1 := Lib.hid g1
  clear r1 q1 f1 g1
  have HF : Hid (cmpV u v = if cmpCore u v = 0 then cmpPre u.pre v.pre else cmpCore u v) := rfl
  have HC : Hid (∀ W, Calls Tryz.prog 48 #[.agg #[.int .u64 (u.a : Int), .int .u64 (u.b : Int), .int .u64 (u.c : Int)], .agg #[.int .u64 (v.a : Int), .int .u64 (v.b : Int), .int .u64 (v.c : Int)]] W fun e w' => e = .returned (.int .i64 (cmpCore u v)) ∧ BelowD W.heap.size W w') := fun W => cores_anyD u v W
  generalize cmpCore u v = c at HF HC
  go_enter Tryz.func35, Tryz.ntmps35
  go_upto_region 1 with (fail)
  generalize ((w.alloc (.cells #[.int .u64 (u.a : Int), .int .u64 (u.b : Int), .int .u64 (u.c : Int), .slice A1 u.pre.length c1, .slice A2 u.build.length c2] 32)).alloc (.cells #[.int .u64 (v.a : Int), .int .u64 (v.b : Int), .int .u64 (v.c : Int), .slice B1 v.pre.length d1, .slice B2 v.build.length d2] 32)) = W at HB0 K1 K2 ⊢
  have hz := K2.out.1
  have hw := HB0.out.size
  have D0 := Lib.hid (BelowD.refl W.heap.size W).drew
  have D1 := Lib.hid (D0.out.mono (B' := w.heap.size) hw)
  refine wp_region_held_drew (S := fun w' => (w'.cell? ⟨w.heap.size, 0, none⟩ = some (.int .u64 (u.a : Int)) ∧ w'.cell? ⟨w.heap.size, 1, none⟩ = some (.int .u64 (u.b : Int)) ∧ w'.cell? ⟨w.heap.size, 2, none⟩ = some (.int .u64 (u.c : Int)) ∧ w'.cell? ⟨w.heap.size, 3, none⟩ = some (.slice A1 u.pre.length c1) ∧ w'.cell? ⟨w.heap.size, 4, none⟩ = some (.slice A2 u.build.length c2)) ∧ (w'.cell? ⟨(w.heap.size + 1), 0, none⟩ = some (.int .u64 (v.a : Int)) ∧ w'.cell? ⟨(w.heap.size + 1), 1, none⟩ = some (.int .u64 (v.b : Int)) ∧ w'.cell? ⟨(w.heap.size + 1), 2, none⟩ = some (.int .u64 (v.c : Int)) ∧ w'.cell? ⟨(w.heap.size + 1), 3, none⟩ = some (.slice B1 v.pre.length d1) ∧ w'.cell? ⟨(w.heap.size + 1), 4, none⟩ = some (.slice B2 v.build.length d2))) (by kernel_rfl) ⟨K1.out.2.2, K2.out.2.2⟩ (fun hHeld => ?_)
  refine wpAnyH_take (i := 0) (oi := { dst := some 6, op := Op.load 32 (Operand.tmp 2), type := 32, pos := "prec.go:20", after := #[], guard := none }) (v := .agg #[.int .u64 (u.a : Int), .int .u64 (u.b : Int), .int .u64 (u.c : Int), .slice A1 u.pre.length c1, .slice A2 u.build.length c2]) rfl (by kernel_rfl) (by kernel_rfl) (by kernel_rfl) (fun _ _ _ h => h) (Or.inl ⟨by rfl, fun w' hS' => by go_simp⟩) (by assumption) ?_
  simp only [Act.put, List.setIfInBounds_toArray, List.set_cons_zero, List.set_cons_succ]
  refine wpAnyH_take (i := 2) (oi := { dst := some 8, op := Op.load 32 (Operand.tmp 3), type := 32, pos := "prec.go:20", after := #[], guard := none }) (v := .agg #[.int .u64 (v.a : Int), .int .u64 (v.b : Int), .int .u64 (v.c : Int), .slice B1 v.pre.length d1, .slice B2 v.build.length d2]) rfl (by kernel_rfl) (by kernel_rfl) (by kernel_rfl) (fun _ _ _ h => h) (Or.inl ⟨by rfl, fun w' hS' => by go_simp⟩) (by assumption) ?_
  simp only [Act.put, List.setIfInBounds_toArray, List.set_cons_zero, List.set_cons_succ]
  refine wpAnyH_ready (rs := [1]) (by kernel_rfl) (by simp) ?_
  refine AllReadyH.cons (o := { dst := some 7, op := Op.call { callee := Callee.value (Operand.func 49), args := #[Operand.tmp 6], argTypes := #[32] }, type := 73, pos := "prec.go:20", after := #[{ on := 0, ground := Ground.data }], guard := none }) rfl (fun K hK => ?_) AllReadyH.nil
  go_simp
  refine (coreOf_anyD _ _ _ _ _ _).mono ?_
  rintro e w2 ⟨rfl, hb2⟩
  have L1 := Lib.hid ((K1.out.kept D0.out.toBelow (by omega)).kept hb2.toBelow (by simp; omega))
  have L2 := Lib.hid ((K2.out.kept D0.out.toBelow (by omega)).kept hb2.toBelow (by simp; omega))
  have B2 := Lib.hid ((HB0.out.trans D1.out).trans (hb2.mono (by simp; omega)))
  have hz2 : W.heap.size ≤ w2.heap.size := by have := hb2.size; simpa using this
  clear hb2
  refine hK.out _ _ ⟨L1.out.2.2, L2.out.2.2⟩ (fun hHeld => ?_)
  clear hK K
  try simp only [Act.put, List.setIfInBounds_toArray, List.set_cons_zero, List.set_cons_succ]
  refine wpAnyH_ready (rs := [3]) (by kernel_rfl) (by simp) ?_
  refine AllReadyH.cons (o := { dst := some 9, op := Op.call { callee := Callee.value (Operand.func 49), args := #[Operand.tmp 8], argTypes := #[32] }, type := 73, pos := "prec.go:20", after := #[{ on := 2, ground := Ground.data }, { on := 1, ground := Ground.chain }], guard := none }) rfl (fun K hK => ?_) AllReadyH.nil
  go_simp
  refine (coreOf_anyD _ _ _ _ _ _).mono ?_
  rintro e w3 ⟨rfl, hb3⟩
  have M1 := Lib.hid (L1.out.kept hb3.toBelow (by omega))
  have M2 := Lib.hid (L2.out.kept hb3.toBelow (by omega))
  have B3 := Lib.hid (B2.out.trans (hb3.mono (by omega)))
  have hz3 := hb3.size
  clear hb3
  refine hK.out _ _ ⟨M1.out.2.2, M2.out.2.2⟩ (fun hHeld => ?_)
  clear hK K
  try simp only [Act.put, List.setIfInBounds_toArray, List.set_cons_zero, List.set_cons_succ]
  refine wpAnyH_ready (rs := [4]) (by kernel_rfl) (by simp) ?_
  refine AllReadyH.cons (o := { dst := some 10, op := Op.call { callee := Callee.value (Operand.func 48), args := #[Operand.tmp 7, Operand.tmp 9], argTypes := #[73, 73] }, type := 3, pos := "prec.go:20", after := #[{ on := 1, ground := Ground.data }, { on := 3, ground := Ground.data }, { on := 3, ground := Ground.chain }], guard := none }) rfl (fun K hK => ?_) AllReadyH.nil
  go_simp
  refine (HC.out _).mono ?_
  rintro e w4 ⟨rfl, hb4⟩
  have N1 := Lib.hid (M1.out.kept hb4.toBelow (by omega))
  have N2 := Lib.hid (M2.out.kept hb4.toBelow (by omega))
  have B4 := Lib.hid (B3.out.trans (hb4.mono (by omega)))
  have hz4 := hb4.size
  clear hb4
  refine hK.out _ _ ⟨N1.out.2.2, N2.out.2.2⟩ (fun hHeld => ?_)
  clear hK K
  try simp only [Act.put, List.setIfInBounds_toArray, List.set_cons_zero, List.set_cons_succ]
  refine wpAnyH_take (i := 5) (oi := { dst := some 5, op := Op.assign (Operand.tmp 10), type := 3, pos := "prec.go:20", after := #[{ on := 4, ground := Ground.data }, { on := 4, ground := Ground.chain }, { on := 0, ground := Ground.phase }, { on := 1, ground := Ground.phase }, { on := 2, ground := Ground.phase }, { on := 3, ground := Ground.phase }, { on := 4, ground := Ground.phase }], guard := none }) (v := .int .i64 c) rfl (by kernel_rfl) (by kernel_rfl) (by kernel_rfl) (fun _ _ _ h => h) (Or.inl ⟨by rfl, fun w' hS' => by go_simp⟩) (by assumption) ?_
  simp only [Act.put, List.setIfInBounds_toArray, List.set_cons_zero, List.set_cons_succ]
  refine wpAnyH_done (by kernel_rfl) ?_ _
  clear hHeld
  by_cases hc : c = 0
  · have HF2 : Hid (cmpPre u.pre v.pre = cmpV u v) := by have := HF.out; rw [if_pos hc] at this; exact this.symm
    have KR : Hid (∀ W', W' = w4 → Calls Tryz.prog 50 #[.slice A1 u.pre.length c1, .slice B1 v.pre.length d1] W' fun e w' => e = .returned (.int .i64 (cmpV u v)) ∧ BelowD w4.heap.size w4 w') := by
      rintro W' rfl; rw [← HF2.out]; exact releases_anyD A1 c1 u.pre B1 d1 v.pre W' (R1.out.kept B4.out.toBelow) (Q1.out.kept B4.out.toBelow) F1.out G1.out
    subst hc
    obtain ⟨_, _, x0, x1, x2, x3, x4⟩ := N1.out
    obtain ⟨_, _, y0, y1, y2, y3, y4⟩ := N2.out
    clear HF HF2
    go_wp2_with fail
    refine (KR.out _ rfl).mono ?_
    rintro e w5 ⟨rfl, hb5⟩
    have B5 := Lib.hid (B4.out.trans (hb5.mono (by omega)))
    clear hb5
    go_wp2
    go_ret
    exact ⟨rfl, B5.out⟩
  · have HF2 : Hid (cmpV u v = c) := by have := HF.out; rw [if_neg hc] at this; exact this
    have hn : (c == 0) = false := by simp [hc]
    have hn2 : (c != 0) = true := by simp [hc]
    clear HF hc
    go_wp2
    go_ret
    exact ⟨by rw [HF2.out]; rfl, B4.out⟩
theorem compare_any (u v : Ver) (A1 A2 B1 B2 : Option Addr) (c1 c2 d1 d2 : Nat) (w : World) (r1 : SRow w A1 u.pre.length u.pre) (q1 : SRow w B1 v.pre.length v.pre) (f1 : Fit u.pre) (g1 : Fit v.pre) :
    Calls Tryz.prog 35 #[.agg #[.int .u64 (u.a : Int), .int .u64 (u.b : Int), .int .u64 (u.c : Int), .slice A1 u.pre.length c1, .slice A2 u.build.length c2], .agg #[.int .u64 (v.a : Int), .int .u64 (v.b : Int), .int .u64 (v.c : Int), .slice B1 v.pre.length d1, .slice B2 v.build.length d2]] w fun e w' => e = .returned (.int .i64 (cmpV u v)) ∧ Below w.heap.size w w' := dropD (compare_anyD u v A1 A2 B1 B2 c1 c2 d1 d2 w r1 q1 f1 g1)
end Go.Proofs.YtdbdeadcffpbfaaGreatDoor.Prec
