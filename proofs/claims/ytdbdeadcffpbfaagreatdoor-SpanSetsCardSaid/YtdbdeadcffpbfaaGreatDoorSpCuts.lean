/-
  Which cuts are right, how they stand and compare, which spans count (span.right, ofVersion, stand, Compare, counts). Conditions: the versions' rows lie where the cuts say, and have lengths that the form allows.
-/
import Derived.Test.YtdbdeadcffpbfaaGreatDoorSpMem
import Derived.Test.YtdbdeadcffpbfaaGreatDoorSvGood
namespace Go.Proofs.YtdbdeadcffpbfaaGreatDoor.Span
open Go.RowKit Num Ident Semver Prec

set_option maxRecDepth 100000 in
set_option maxHeartbeats 800000 in
theorem cmpI_any (x y : Int) (w : World) :
    Calls Tryz.prog 45 #[.int .i64 x, .int .i64 y] w fun e w' => e = .returned (.int .i64 (ordI x y)) ∧ w = w' := by
  rcases Int.lt_trichotomy x y with h | h | h
  · have HF := Lib.hid (ordI_lt h)
    go_enter Tryz.func45, Tryz.ntmps45
    go_wp2
    go_ret
    exact ⟨by rw [HF.out]; rfl, rfl⟩
  · have HF := Lib.hid (ordI_eq h)
    subst h
    go_enter Tryz.func45, Tryz.ntmps45
    go_wp2
    go_ret
    exact ⟨by rw [HF.out]; rfl, rfl⟩
  · have HF := Lib.hid (ordI_gt h)
    go_enter Tryz.func45, Tryz.ntmps45
    go_wp2
    go_ret
    exact ⟨by rw [HF.out]; rfl, rfl⟩
/-- semver.Same of a version and the zero one. -/
theorem same_none (v : Ver) (A : Option Addr) (c : Nat) (B : Option Addr) (d : Nat) (w : World) (r1 : SRow w A v.pre.length v.pre) (r2 : SRow w B v.build.length v.build) (h1 : v.pre.length ≤ maxLen) (h2 : v.build.length ≤ maxLen) :
    Calls Tryz.prog 55 #[.agg #[.int .u64 (v.a : Int), .int .u64 (v.b : Int), .int .u64 (v.c : Int), .slice A v.pre.length c, .slice B v.build.length d], .agg #[.int .u64 0, .int .u64 0, .int .u64 0, .slice none 0 0, .slice none 0 0]] w fun e w' => e = .returned (.bool (sameV v noVer)) ∧ Below w.heap.size w w' :=
  same_parts A v.pre.length c v.pre B v.build.length d v.build none 0 0 [] none 0 0 [] v.a v.b v.c 0 0 0 w r1 r2 (SRow.none_ _ _) (SRow.none_ _ _) h1 h2 (Nat.zero_le _) (Nat.zero_le _)

set_option maxRecDepth 100000 in
set_option maxHeartbeats 1600000 in
theorem right_any (r : RCut) (w : World) (h : Lies w r) :
    Calls Tryz.prog 44 #[.agg #[.int .i64 r.kind, .int .u64 (r.v.a : Int), .int .u64 (r.v.b : Int), .int .u64 (r.v.c : Int), .slice r.A r.v.pre.length r.c, .slice r.B r.v.build.length r.d]] w fun e w' => e = .returned (.bool (right r.cut)) ∧ Below w.heap.size w w' := by
  have HBa : Hid (Below w.heap.size w (w.alloc (.cells #[.int .i64 r.kind, .int .u64 (r.v.a : Int), .int .u64 (r.v.b : Int), .int .u64 (r.v.c : Int), .slice r.A r.v.pre.length r.c, .slice r.B r.v.build.length r.d] 35))) := (Below.refl _ _).alloc (Nat.le_refl _) _
  have HL := Lib.hid (h.kept HBa.out)
  have K0 : Hid (At6B (w.alloc (.cells #[.int .i64 r.kind, .int .u64 (r.v.a : Int), .int .u64 (r.v.b : Int), .int .u64 (r.v.c : Int), .slice r.A r.v.pre.length r.c, .slice r.B r.v.build.length r.d] 35)) w.heap.size (.int .i64 r.kind) (.int .u64 (r.v.a : Int)) (.int .u64 (r.v.b : Int)) (.int .u64 (r.v.c : Int)) (.slice r.A r.v.pre.length r.c) (.slice r.B r.v.build.length r.d)) := At6B.new w _ _ _ _ _ _ _
  clear h
  have HR : Hid (right r.cut = right ⟨r.kind, r.v⟩) := rfl
  by_cases h0 : r.kind = 0 ∨ r.kind = 3
  · have HF : Hid (right r.cut = sameV r.v noVer) := right_ends h0
    have hs : (r.kind == 0) = true ∨ ((r.kind == 0) = false ∧ (r.kind == 3) = true) := by
      rcases h0 with h0 | h0
      · left; simp [h0]
      · right; simp [h0]
    clear h0 HR
    rcases hs with e0 | ⟨e0, e3⟩
    all_goals
      go_enter Tryz.func44, Tryz.ntmps44
      go_upto_region 1 with (fail)
      generalize (w.alloc (.cells #[.int .i64 r.kind, .int .u64 (r.v.a : Int), .int .u64 (r.v.b : Int), .int .u64 (r.v.c : Int), .slice r.A r.v.pre.length r.c, .slice r.B r.v.build.length r.d] 35)) = W at HBa HL K0 ⊢
      obtain ⟨hz, _, x0, x1, x2, x3, x4, x5⟩ := K0.out
      go_wp2_with fail
      refine (same_none r.v r.A r.c r.B r.d _ HL.out.pre HL.out.build HL.out.fpre.1 HL.out.fbuild.1).mono ?_
      rintro e w1 ⟨rfl, hb1⟩
      have B1 := Lib.hid (HBa.out.trans (hb1.mono HBa.out.size))
      clear hb1 x0 x1 x2 x3 x4 x5
      go_wp2
      go_ret
      exact ⟨by rw [HF.out]; rfl, B1.out⟩
  have e0 : (r.kind == 0) = false := by simp; omega
  have e3 : (r.kind == 3) = false := by simp; omega
  by_cases h1 : r.kind = 1 ∨ r.kind = 2
  · have HF : Hid (right r.cut = (goodV r.v && decide (r.v.build.length = 0))) := right_ver h1
    have hs : (r.kind == 1) = true ∨ ((r.kind == 1) = false ∧ (r.kind == 2) = true) := by
      rcases h1 with h1 | h1
      · left; simp [h1]
      · right; simp [h1]
    clear h0 h1 HR
    rcases hs with e1 | ⟨e1, e2⟩
    all_goals
      go_enter Tryz.func44, Tryz.ntmps44
      go_upto_region 1 with (fail)
      generalize (w.alloc (.cells #[.int .i64 r.kind, .int .u64 (r.v.a : Int), .int .u64 (r.v.b : Int), .int .u64 (r.v.c : Int), .slice r.A r.v.pre.length r.c, .slice r.B r.v.build.length r.d] 35)) = W at HBa HL K0 ⊢
      obtain ⟨hz, _, x0, x1, x2, x3, x4, x5⟩ := K0.out
      go_wp2_with fail
      refine (vgood_any r.v r.A r.c r.B r.d _ HL.out.pre HL.out.build HL.out.fpre.1 HL.out.fbuild.1 HL.out.fpre.2 HL.out.fbuild.2).mono ?_
      rintro e w1 ⟨rfl, hb1⟩
      have B1 := Lib.hid (HBa.out.trans (hb1.mono HBa.out.size))
      have K1 := Lib.hid (K0.out.kept hb1 hz)
      clear hb1 x0 x1 x2 x3 x4 x5 hz
      obtain ⟨hz, _, x0, x1, x2, x3, x4, x5⟩ := K1.out
      generalize goodV r.v = g at HF ⊢
      cases g
      · go_wp2
        go_ret
        exact ⟨by rw [HF.out]; rfl, B1.out⟩
      · by_cases hb : r.v.build.length = 0
        · have HF2 : Hid (right r.cut = true) := by have := HF.out; rw [this, decide_eq_true hb]; rfl
          have eb : ((r.v.build.length : Int) == 0) = true := by rw [beq_iff_eq]; omega
          clear HF hb
          go_wp2
          go_ret
          exact ⟨by rw [HF2.out]; rfl, B1.out⟩
        · have HF2 : Hid (right r.cut = false) := by have := HF.out; rw [this, decide_eq_false hb]; rfl
          have eb : ((r.v.build.length : Int) == 0) = false := by rw [beq_eq_false_iff_ne]; omega
          clear HF hb
          go_wp2
          go_ret
          exact ⟨by rw [HF2.out]; rfl, B1.out⟩
  · have HF : Hid (right r.cut = false) := right_none h0 h1
    have e1 : (r.kind == 1) = false := by simp; omega
    have e2 : (r.kind == 2) = false := by simp; omega
    clear h0 h1 HR
    go_enter Tryz.func44, Tryz.ntmps44
    go_upto_region 1 with (fail)
    generalize (w.alloc (.cells #[.int .i64 r.kind, .int .u64 (r.v.a : Int), .int .u64 (r.v.b : Int), .int .u64 (r.v.c : Int), .slice r.A r.v.pre.length r.c, .slice r.B r.v.build.length r.d] 35)) = W at HBa HL K0 ⊢
    obtain ⟨hz, _, x0, x1, x2, x3, x4, x5⟩ := K0.out
    go_wp2
    go_ret
    exact ⟨by rw [HF.out]; rfl, HBa.out⟩

set_option maxRecDepth 100000 in
set_option maxHeartbeats 1600000 in
theorem ofVer_any (r : RCut) (w : World) :
    Calls Tryz.prog 46 #[.agg #[.int .i64 r.kind, .int .u64 (r.v.a : Int), .int .u64 (r.v.b : Int), .int .u64 (r.v.c : Int), .slice r.A r.v.pre.length r.c, .slice r.B r.v.build.length r.d]] w fun e w' => e = .returned (.bool (ofVer r.cut)) ∧ BelowD w.heap.size w w' := by
  have HBa : Hid (BelowD w.heap.size w (w.alloc (.cells #[.int .i64 r.kind, .int .u64 (r.v.a : Int), .int .u64 (r.v.b : Int), .int .u64 (r.v.c : Int), .slice r.A r.v.pre.length r.c, .slice r.B r.v.build.length r.d] 35))) := (BelowD.refl _ _).alloc (Nat.le_refl _) _
  have K0 : Hid (At6B (w.alloc (.cells #[.int .i64 r.kind, .int .u64 (r.v.a : Int), .int .u64 (r.v.b : Int), .int .u64 (r.v.c : Int), .slice r.A r.v.pre.length r.c, .slice r.B r.v.build.length r.d] 35)) w.heap.size (.int .i64 r.kind) (.int .u64 (r.v.a : Int)) (.int .u64 (r.v.b : Int)) (.int .u64 (r.v.c : Int)) (.slice r.A r.v.pre.length r.c) (.slice r.B r.v.build.length r.d)) := At6B.new w _ _ _ _ _ _ _
  by_cases h1 : r.kind = 1
  · have HF : Hid (ofVer r.cut = true) := (ofVer_iff _).2 (.inl h1)
    have e1 : (r.kind == 1) = true := by simp [h1]
    clear h1
    go_enter Tryz.func46, Tryz.ntmps46
    go_upto_region 1 with (fail)
    generalize (w.alloc (.cells #[.int .i64 r.kind, .int .u64 (r.v.a : Int), .int .u64 (r.v.b : Int), .int .u64 (r.v.c : Int), .slice r.A r.v.pre.length r.c, .slice r.B r.v.build.length r.d] 35)) = W at HBa K0 ⊢
    obtain ⟨hz, _, x0, x1, x2, x3, x4, x5⟩ := K0.out
    go_wp2
    go_ret
    exact ⟨by rw [HF.out]; rfl, HBa.out⟩
  have e1 : (r.kind == 1) = false := by simp; omega
  by_cases h2 : r.kind = 2
  · have HF : Hid (ofVer r.cut = true) := (ofVer_iff _).2 (.inr h2)
    have e2 : (r.kind == 2) = true := by simp [h2]
    clear h1 h2
    go_enter Tryz.func46, Tryz.ntmps46
    go_upto_region 1 with (fail)
    generalize (w.alloc (.cells #[.int .i64 r.kind, .int .u64 (r.v.a : Int), .int .u64 (r.v.b : Int), .int .u64 (r.v.c : Int), .slice r.A r.v.pre.length r.c, .slice r.B r.v.build.length r.d] 35)) = W at HBa K0 ⊢
    obtain ⟨hz, _, x0, x1, x2, x3, x4, x5⟩ := K0.out
    go_wp2
    go_ret
    exact ⟨by rw [HF.out]; rfl, HBa.out⟩
  · have HF : Hid (ofVer r.cut = false) := (ofVer_no _).2 (by show ¬ (r.kind = 1 ∨ r.kind = 2); omega)
    have e2 : (r.kind == 2) = false := by simp; omega
    clear h1 h2
    go_enter Tryz.func46, Tryz.ntmps46
    go_upto_region 1 with (fail)
    generalize (w.alloc (.cells #[.int .i64 r.kind, .int .u64 (r.v.a : Int), .int .u64 (r.v.b : Int), .int .u64 (r.v.c : Int), .slice r.A r.v.pre.length r.c, .slice r.B r.v.build.length r.d] 35)) = W at HBa K0 ⊢
    obtain ⟨hz, _, x0, x1, x2, x3, x4, x5⟩ := K0.out
    go_wp2
    go_ret
    exact ⟨by rw [HF.out]; rfl, HBa.out⟩

set_option maxRecDepth 100000 in
set_option maxHeartbeats 3200000 in
theorem stand_anyD (r s : RCut) (w : World) (h1 : Lies w r) (h2 : Lies w s) :
    Calls Tryz.prog 32 #[.agg #[.int .i64 r.kind, .int .u64 (r.v.a : Int), .int .u64 (r.v.b : Int), .int .u64 (r.v.c : Int), .slice r.A r.v.pre.length r.c, .slice r.B r.v.build.length r.d], .agg #[.int .i64 s.kind, .int .u64 (s.v.a : Int), .int .u64 (s.v.b : Int), .int .u64 (s.v.c : Int), .slice s.A s.v.pre.length s.c, .slice s.B s.v.build.length s.d]] w fun e w' => e = .returned (.int .i64 (stand r.cut s.cut)) ∧ BelowD w.heap.size w w' := by
  have HBa : Hid (BelowD w.heap.size w ((w.alloc (.cells #[.int .i64 r.kind, .int .u64 (r.v.a : Int), .int .u64 (r.v.b : Int), .int .u64 (r.v.c : Int), .slice r.A r.v.pre.length r.c, .slice r.B r.v.build.length r.d] 35)).alloc (.cells #[.int .i64 s.kind, .int .u64 (s.v.a : Int), .int .u64 (s.v.b : Int), .int .u64 (s.v.c : Int), .slice s.A s.v.pre.length s.c, .slice s.B s.v.build.length s.d] 35))) := ((BelowD.refl _ _).alloc (Nat.le_refl _) _).alloc (by simp) _
  have HL := Lib.hid (h1.kept HBa.out.toBelow)
  have HM := Lib.hid (h2.kept HBa.out.toBelow)
  have K0 : Hid (At6B ((w.alloc (.cells #[.int .i64 r.kind, .int .u64 (r.v.a : Int), .int .u64 (r.v.b : Int), .int .u64 (r.v.c : Int), .slice r.A r.v.pre.length r.c, .slice r.B r.v.build.length r.d] 35)).alloc (.cells #[.int .i64 s.kind, .int .u64 (s.v.a : Int), .int .u64 (s.v.b : Int), .int .u64 (s.v.c : Int), .slice s.A s.v.pre.length s.c, .slice s.B s.v.build.length s.d] 35)) w.heap.size (.int .i64 r.kind) (.int .u64 (r.v.a : Int)) (.int .u64 (r.v.b : Int)) (.int .u64 (r.v.c : Int)) (.slice r.A r.v.pre.length r.c) (.slice r.B r.v.build.length r.d)) := (At6B.new w _ _ _ _ _ _ _).kept ((Below.refl _ _).alloc (Nat.le_refl _) _) (by simp)
  have J0 : Hid (At6B ((w.alloc (.cells #[.int .i64 r.kind, .int .u64 (r.v.a : Int), .int .u64 (r.v.b : Int), .int .u64 (r.v.c : Int), .slice r.A r.v.pre.length r.c, .slice r.B r.v.build.length r.d] 35)).alloc (.cells #[.int .i64 s.kind, .int .u64 (s.v.a : Int), .int .u64 (s.v.b : Int), .int .u64 (s.v.c : Int), .slice s.A s.v.pre.length s.c, .slice s.B s.v.build.length s.d] 35)) (w.heap.size + 1) (.int .i64 s.kind) (.int .u64 (s.v.a : Int)) (.int .u64 (s.v.b : Int)) (.int .u64 (s.v.c : Int)) (.slice s.A s.v.pre.length s.c) (.slice s.B s.v.build.length s.d)) := by
    have := At6B.new (w.alloc (.cells #[.int .i64 r.kind, .int .u64 (r.v.a : Int), .int .u64 (r.v.b : Int), .int .u64 (r.v.c : Int), .slice r.A r.v.pre.length r.c, .slice r.B r.v.build.length r.d] 35)) 35 (.int .i64 s.kind) (.int .u64 (s.v.a : Int)) (.int .u64 (s.v.b : Int)) (.int .u64 (s.v.c : Int)) (.slice s.A s.v.pre.length s.c) (.slice s.B s.v.build.length s.d)
    rw [size_alloc] at this; exact this
  clear h1 h2
  have HF : Hid (stand r.cut s.cut = if ofVer r.cut = true ∧ ofVer s.cut = true ∧ cmpV r.v s.v ≠ 0 then cmpV r.v s.v else ordI r.kind s.kind) := rfl
  go_enter Tryz.func32, Tryz.ntmps32
  go_upto_region 1 with (fail)
  generalize ((w.alloc (.cells #[.int .i64 r.kind, .int .u64 (r.v.a : Int), .int .u64 (r.v.b : Int), .int .u64 (r.v.c : Int), .slice r.A r.v.pre.length r.c, .slice r.B r.v.build.length r.d] 35)).alloc (.cells #[.int .i64 s.kind, .int .u64 (s.v.a : Int), .int .u64 (s.v.b : Int), .int .u64 (s.v.c : Int), .slice s.A s.v.pre.length s.c, .slice s.B s.v.build.length s.d] 35)) = W at HBa HL HM K0 J0 ⊢
  obtain ⟨hz, _, x0, x1, x2, x3, x4, x5⟩ := K0.out
  obtain ⟨hy, _, y0, y1, y2, y3, y4, y5⟩ := J0.out
  go_wp2_with fail
  refine (ofVer_any r _).mono ?_
  rintro e w1 ⟨rfl, hb1⟩
  have K1 := Lib.hid (K0.out.kept hb1.toBelow hz)
  have J1 := Lib.hid (J0.out.kept hb1.toBelow hy)
  have L1 := Lib.hid (HL.out.kept hb1.toBelow)
  have M1 := Lib.hid (HM.out.kept hb1.toBelow)
  have B1 := Lib.hid (HBa.out.trans (hb1.mono HBa.out.size))
  clear hb1 hz hy
  clear x0 x1 x2 x3 x4 x5 y0 y1 y2 y3 y4 y5
  obtain ⟨hz1, _, x0, x1, x2, x3, x4, x5⟩ := K1.out
  obtain ⟨hy1, _, y0, y1, y2, y3, y4, y5⟩ := J1.out
  generalize ofVer r.cut = g1 at HF ⊢
  cases g1
  · have HF2 : Hid (stand r.cut s.cut = ordI r.kind s.kind) := by have := HF.out; rw [if_neg (by rintro ⟨h, _⟩; cases h)] at this; exact this
    clear HF
    go_wp2_with fail
    refine (cmpI_any _ _ _).mono ?_
    rintro e w' ⟨rfl, rfl⟩
    go_wp2
    go_ret
    exact ⟨by rw [HF2.out]; rfl, B1.out⟩
  go_wp2_with fail
  refine (ofVer_any s _).mono ?_
  rintro e w2 ⟨rfl, hb2⟩
  have K2 := Lib.hid (K1.out.kept hb2.toBelow hz1)
  have J2 := Lib.hid (J1.out.kept hb2.toBelow hy1)
  have L2 := Lib.hid (L1.out.kept hb2.toBelow)
  have M2 := Lib.hid (M1.out.kept hb2.toBelow)
  have B2 := Lib.hid (B1.out.trans (hb2.mono B1.out.size))
  clear hb2 hz1 hy1
  clear x0 x1 x2 x3 x4 x5 y0 y1 y2 y3 y4 y5
  obtain ⟨hz2, _, x0, x1, x2, x3, x4, x5⟩ := K2.out
  obtain ⟨hy2, _, y0, y1, y2, y3, y4, y5⟩ := J2.out
  generalize ofVer s.cut = g2 at HF ⊢
  cases g2
  · have HF2 : Hid (stand r.cut s.cut = ordI r.kind s.kind) := by have := HF.out; rw [if_neg (by rintro ⟨_, h, _⟩; cases h)] at this; exact this
    clear HF
    go_wp2_with fail
    refine (cmpI_any _ _ _).mono ?_
    rintro e w' ⟨rfl, rfl⟩
    go_wp2
    go_ret
    exact ⟨by rw [HF2.out]; rfl, B2.out⟩
  go_wp2_with fail
  refine (Prec.compare_anyD r.v s.v r.A r.B s.A s.B r.c r.d s.c s.d _ L2.out.pre M2.out.pre L2.out.fpre M2.out.fpre).mono ?_
  rintro e w3 ⟨rfl, hb3⟩
  have K3 := Lib.hid (K2.out.kept hb3.toBelow hz2)
  have J3 := Lib.hid (J2.out.kept hb3.toBelow hy2)
  have B3 := Lib.hid (B2.out.trans (hb3.mono B2.out.size))
  clear hb3 hz2 hy2
  clear x0 x1 x2 x3 x4 x5 y0 y1 y2 y3 y4 y5
  obtain ⟨hz3, _, x0, x1, x2, x3, x4, x5⟩ := K3.out
  obtain ⟨hy3, _, y0, y1, y2, y3, y4, y5⟩ := J3.out
  generalize cmpV r.v s.v = c at HF ⊢
  by_cases hc : c = 0
  · have HF2 : Hid (stand r.cut s.cut = ordI r.kind s.kind) := by have := HF.out; rw [if_neg (fun h => h.2.2 hc)] at this; exact this
    subst hc
    clear HF
    go_wp2_with fail
    refine (cmpI_any _ _ _).mono ?_
    rintro e w' ⟨rfl, rfl⟩
    go_wp2
    go_ret
    exact ⟨by rw [HF2.out]; rfl, B3.out⟩
  · have HF2 : Hid (stand r.cut s.cut = c) := by have := HF.out; rw [if_pos (by simp [hc])] at this; exact this
    have hn : (c == 0) = false := by simp [hc]
    have hn2 : (c != 0) = true := by simp [hc]
    clear HF hc
    go_wp2
    go_ret
    exact ⟨by rw [HF2.out]; rfl, B3.out⟩
theorem stand_any (r s : RCut) (w : World) (h1 : Lies w r) (h2 : Lies w s) :
    Calls Tryz.prog 32 #[.agg #[.int .i64 r.kind, .int .u64 (r.v.a : Int), .int .u64 (r.v.b : Int), .int .u64 (r.v.c : Int), .slice r.A r.v.pre.length r.c, .slice r.B r.v.build.length r.d], .agg #[.int .i64 s.kind, .int .u64 (s.v.a : Int), .int .u64 (s.v.b : Int), .int .u64 (s.v.c : Int), .slice s.A s.v.pre.length s.c, .slice s.B s.v.build.length s.d]] w fun e w' => e = .returned (.int .i64 (stand r.cut s.cut)) ∧ Below w.heap.size w w' := dropD (stand_anyD r s w h1 h2)

set_option maxRecDepth 100000 in
set_option maxHeartbeats 3200000 in
theorem compareC_any (r s : RCut) (w : World) (h1 : Lies w r) (h2 : Lies w s) :
    Calls Tryz.prog 30 #[.agg #[.int .i64 r.kind, .int .u64 (r.v.a : Int), .int .u64 (r.v.b : Int), .int .u64 (r.v.c : Int), .slice r.A r.v.pre.length r.c, .slice r.B r.v.build.length r.d], .agg #[.int .i64 s.kind, .int .u64 (s.v.a : Int), .int .u64 (s.v.b : Int), .int .u64 (s.v.c : Int), .slice s.A s.v.pre.length s.c, .slice s.B s.v.build.length s.d]] w fun e w' => e = .returned (.int .i64 (cmpC r.cut s.cut)) ∧ Below w.heap.size w w' := by
  have HBa : Hid (Below w.heap.size w ((w.alloc (.cells #[.int .i64 r.kind, .int .u64 (r.v.a : Int), .int .u64 (r.v.b : Int), .int .u64 (r.v.c : Int), .slice r.A r.v.pre.length r.c, .slice r.B r.v.build.length r.d] 35)).alloc (.cells #[.int .i64 s.kind, .int .u64 (s.v.a : Int), .int .u64 (s.v.b : Int), .int .u64 (s.v.c : Int), .slice s.A s.v.pre.length s.c, .slice s.B s.v.build.length s.d] 35))) := ((Below.refl _ _).alloc (Nat.le_refl _) _).alloc (by simp) _
  have HL := Lib.hid (h1.kept HBa.out)
  have HM := Lib.hid (h2.kept HBa.out)
  have K0 : Hid (At6B ((w.alloc (.cells #[.int .i64 r.kind, .int .u64 (r.v.a : Int), .int .u64 (r.v.b : Int), .int .u64 (r.v.c : Int), .slice r.A r.v.pre.length r.c, .slice r.B r.v.build.length r.d] 35)).alloc (.cells #[.int .i64 s.kind, .int .u64 (s.v.a : Int), .int .u64 (s.v.b : Int), .int .u64 (s.v.c : Int), .slice s.A s.v.pre.length s.c, .slice s.B s.v.build.length s.d] 35)) w.heap.size (.int .i64 r.kind) (.int .u64 (r.v.a : Int)) (.int .u64 (r.v.b : Int)) (.int .u64 (r.v.c : Int)) (.slice r.A r.v.pre.length r.c) (.slice r.B r.v.build.length r.d)) := (At6B.new w _ _ _ _ _ _ _).kept ((Below.refl _ _).alloc (Nat.le_refl _) _) (by simp)
  have J0 : Hid (At6B ((w.alloc (.cells #[.int .i64 r.kind, .int .u64 (r.v.a : Int), .int .u64 (r.v.b : Int), .int .u64 (r.v.c : Int), .slice r.A r.v.pre.length r.c, .slice r.B r.v.build.length r.d] 35)).alloc (.cells #[.int .i64 s.kind, .int .u64 (s.v.a : Int), .int .u64 (s.v.b : Int), .int .u64 (s.v.c : Int), .slice s.A s.v.pre.length s.c, .slice s.B s.v.build.length s.d] 35)) (w.heap.size + 1) (.int .i64 s.kind) (.int .u64 (s.v.a : Int)) (.int .u64 (s.v.b : Int)) (.int .u64 (s.v.c : Int)) (.slice s.A s.v.pre.length s.c) (.slice s.B s.v.build.length s.d)) := by
    have := At6B.new (w.alloc (.cells #[.int .i64 r.kind, .int .u64 (r.v.a : Int), .int .u64 (r.v.b : Int), .int .u64 (r.v.c : Int), .slice r.A r.v.pre.length r.c, .slice r.B r.v.build.length r.d] 35)) 35 (.int .i64 s.kind) (.int .u64 (s.v.a : Int)) (.int .u64 (s.v.b : Int)) (.int .u64 (s.v.c : Int)) (.slice s.A s.v.pre.length s.c) (.slice s.B s.v.build.length s.d)
    rw [size_alloc] at this; exact this
  clear h1 h2
  have HF : Hid (cmpC r.cut s.cut = if right r.cut = true ∧ right s.cut = true then stand r.cut s.cut else ordI r.kind s.kind) := rfl
  go_enter Tryz.func30, Tryz.ntmps30
  go_upto_region 1 with (fail)
  generalize ((w.alloc (.cells #[.int .i64 r.kind, .int .u64 (r.v.a : Int), .int .u64 (r.v.b : Int), .int .u64 (r.v.c : Int), .slice r.A r.v.pre.length r.c, .slice r.B r.v.build.length r.d] 35)).alloc (.cells #[.int .i64 s.kind, .int .u64 (s.v.a : Int), .int .u64 (s.v.b : Int), .int .u64 (s.v.c : Int), .slice s.A s.v.pre.length s.c, .slice s.B s.v.build.length s.d] 35)) = W at HBa HL HM K0 J0 ⊢
  obtain ⟨hz, _, x0, x1, x2, x3, x4, x5⟩ := K0.out
  obtain ⟨hy, _, y0, y1, y2, y3, y4, y5⟩ := J0.out
  go_wp2_with fail
  refine (right_any r _ HL.out).mono ?_
  rintro e w1 ⟨rfl, hb1⟩
  have K1 := Lib.hid (K0.out.kept hb1 hz)
  have J1 := Lib.hid (J0.out.kept hb1 hy)
  have L1 := Lib.hid (HL.out.kept hb1)
  have M1 := Lib.hid (HM.out.kept hb1)
  have B1 := Lib.hid (HBa.out.trans (hb1.mono HBa.out.size))
  clear hb1 hz hy
  clear x0 x1 x2 x3 x4 x5 y0 y1 y2 y3 y4 y5
  obtain ⟨hz1, _, x0, x1, x2, x3, x4, x5⟩ := K1.out
  obtain ⟨hy1, _, y0, y1, y2, y3, y4, y5⟩ := J1.out
  generalize right r.cut = g1 at HF ⊢
  cases g1
  · have HF2 : Hid (cmpC r.cut s.cut = ordI r.kind s.kind) := by have := HF.out; rw [if_neg (by rintro ⟨h, _⟩; cases h)] at this; exact this
    clear HF
    go_wp2_with fail
    refine (cmpI_any _ _ _).mono ?_
    rintro e w' ⟨rfl, rfl⟩
    go_wp2
    go_ret
    exact ⟨by rw [HF2.out]; rfl, B1.out⟩
  go_wp2_with fail
  refine (right_any s _ M1.out).mono ?_
  rintro e w2 ⟨rfl, hb2⟩
  have K2 := Lib.hid (K1.out.kept hb2 hz1)
  have J2 := Lib.hid (J1.out.kept hb2 hy1)
  have L2 := Lib.hid (L1.out.kept hb2)
  have M2 := Lib.hid (M1.out.kept hb2)
  have B2 := Lib.hid (B1.out.trans (hb2.mono B1.out.size))
  clear hb2 hz1 hy1
  clear x0 x1 x2 x3 x4 x5 y0 y1 y2 y3 y4 y5
  obtain ⟨hz2, _, x0, x1, x2, x3, x4, x5⟩ := K2.out
  obtain ⟨hy2, _, y0, y1, y2, y3, y4, y5⟩ := J2.out
  generalize right s.cut = g2 at HF ⊢
  cases g2
  · have HF2 : Hid (cmpC r.cut s.cut = ordI r.kind s.kind) := by have := HF.out; rw [if_neg (by rintro ⟨_, h⟩; cases h)] at this; exact this
    clear HF
    go_wp2_with fail
    refine (cmpI_any _ _ _).mono ?_
    rintro e w' ⟨rfl, rfl⟩
    go_wp2
    go_ret
    exact ⟨by rw [HF2.out]; rfl, B2.out⟩
  have HF2 : Hid (cmpC r.cut s.cut = stand r.cut s.cut) := by have := HF.out; rw [if_pos (by simp)] at this; exact this
  clear HF
  go_wp2_with fail
  refine (stand_any r s _ L2.out M2.out).mono ?_
  rintro e w3 ⟨rfl, hb3⟩
  have B3 := Lib.hid (B2.out.trans (hb3.mono B2.out.size))
  clear hb3 hz2 hy2
  clear x0 x1 x2 x3 x4 x5 y0 y1 y2 y3 y4 y5
  go_wp2
  go_ret
  exact ⟨by rw [HF2.out]; rfl, B3.out⟩

set_option maxRecDepth 100000 in
set_option maxHeartbeats 3200000 in
theorem counts_any (s : RSp) (w : World) (h : LiesS w s) :
    Calls Tryz.prog 31 #[.agg #[.int .i64 s.lo.kind, .int .u64 (s.lo.v.a : Int), .int .u64 (s.lo.v.b : Int), .int .u64 (s.lo.v.c : Int), .slice s.lo.A s.lo.v.pre.length s.lo.c, .slice s.lo.B s.lo.v.build.length s.lo.d, .int .i64 s.hi.kind, .int .u64 (s.hi.v.a : Int), .int .u64 (s.hi.v.b : Int), .int .u64 (s.hi.v.c : Int), .slice s.hi.A s.hi.v.pre.length s.hi.c, .slice s.hi.B s.hi.v.build.length s.hi.d]] w fun e w' => e = .returned (.bool (cnt s.sp)) ∧ Below w.heap.size w w' := by
  have HBa : Hid (Below w.heap.size w (w.alloc (.cells #[.int .i64 s.lo.kind, .int .u64 (s.lo.v.a : Int), .int .u64 (s.lo.v.b : Int), .int .u64 (s.lo.v.c : Int), .slice s.lo.A s.lo.v.pre.length s.lo.c, .slice s.lo.B s.lo.v.build.length s.lo.d, .int .i64 s.hi.kind, .int .u64 (s.hi.v.a : Int), .int .u64 (s.hi.v.b : Int), .int .u64 (s.hi.v.c : Int), .slice s.hi.A s.hi.v.pre.length s.hi.c, .slice s.hi.B s.hi.v.build.length s.hi.d] 37))) := (Below.refl _ _).alloc (Nat.le_refl _) _
  have HL := Lib.hid (h.kept HBa.out)
  have K0 : Hid (At12B (w.alloc (.cells #[.int .i64 s.lo.kind, .int .u64 (s.lo.v.a : Int), .int .u64 (s.lo.v.b : Int), .int .u64 (s.lo.v.c : Int), .slice s.lo.A s.lo.v.pre.length s.lo.c, .slice s.lo.B s.lo.v.build.length s.lo.d, .int .i64 s.hi.kind, .int .u64 (s.hi.v.a : Int), .int .u64 (s.hi.v.b : Int), .int .u64 (s.hi.v.c : Int), .slice s.hi.A s.hi.v.pre.length s.hi.c, .slice s.hi.B s.hi.v.build.length s.hi.d] 37)) w.heap.size (.int .i64 s.lo.kind) (.int .u64 (s.lo.v.a : Int)) (.int .u64 (s.lo.v.b : Int)) (.int .u64 (s.lo.v.c : Int)) (.slice s.lo.A s.lo.v.pre.length s.lo.c) (.slice s.lo.B s.lo.v.build.length s.lo.d) (.int .i64 s.hi.kind) (.int .u64 (s.hi.v.a : Int)) (.int .u64 (s.hi.v.b : Int)) (.int .u64 (s.hi.v.c : Int)) (.slice s.hi.A s.hi.v.pre.length s.hi.c) (.slice s.hi.B s.hi.v.build.length s.hi.d)) := At12B.new w _ _ _ _ _ _ _ _ _ _ _ _ _
  clear h
  have HF : Hid (cnt s.sp = (right s.lo.cut && (right s.hi.cut && decide (stand s.lo.cut s.hi.cut < 0)))) := rfl
  go_enter Tryz.func31, Tryz.ntmps31
  go_upto_region 1 with (fail)
  generalize (w.alloc (.cells #[.int .i64 s.lo.kind, .int .u64 (s.lo.v.a : Int), .int .u64 (s.lo.v.b : Int), .int .u64 (s.lo.v.c : Int), .slice s.lo.A s.lo.v.pre.length s.lo.c, .slice s.lo.B s.lo.v.build.length s.lo.d, .int .i64 s.hi.kind, .int .u64 (s.hi.v.a : Int), .int .u64 (s.hi.v.b : Int), .int .u64 (s.hi.v.c : Int), .slice s.hi.A s.hi.v.pre.length s.hi.c, .slice s.hi.B s.hi.v.build.length s.hi.d] 37)) = W at HBa HL K0 ⊢
  obtain ⟨hz, _, x0, x1, x2, x3, x4, x5, x6, x7, x8, x9, x10, x11⟩ := K0.out
  go_wp2_with fail
  refine (right_any s.lo _ HL.out.lo).mono ?_
  rintro e w1 ⟨rfl, hb1⟩
  have K1 := Lib.hid (K0.out.kept hb1 hz)
  have L1 := Lib.hid (HL.out.kept hb1)
  have B1 := Lib.hid (HBa.out.trans (hb1.mono HBa.out.size))
  clear hb1 hz x0 x1 x2 x3 x4 x5 x6 x7 x8 x9 x10 x11
  obtain ⟨hz1, _, x0, x1, x2, x3, x4, x5, x6, x7, x8, x9, x10, x11⟩ := K1.out
  generalize right s.lo.cut = g1 at HF ⊢
  cases g1
  · go_wp2
    go_ret
    exact ⟨by rw [HF.out]; rfl, B1.out⟩
  go_wp2_with fail
  refine (right_any s.hi _ L1.out.hi).mono ?_
  rintro e w2 ⟨rfl, hb2⟩
  have K2 := Lib.hid (K1.out.kept hb2 hz1)
  have L2 := Lib.hid (L1.out.kept hb2)
  have B2 := Lib.hid (B1.out.trans (hb2.mono B1.out.size))
  clear hb2 hz1 x0 x1 x2 x3 x4 x5 x6 x7 x8 x9 x10 x11
  obtain ⟨hz2, _, x0, x1, x2, x3, x4, x5, x6, x7, x8, x9, x10, x11⟩ := K2.out
  generalize right s.hi.cut = g2 at HF ⊢
  cases g2
  · go_wp2
    go_ret
    exact ⟨by rw [HF.out]; rfl, B2.out⟩
  go_wp2_with fail
  refine (stand_any s.lo s.hi _ L2.out.lo L2.out.hi).mono ?_
  rintro e w3 ⟨rfl, hb3⟩
  have B3 := Lib.hid (B2.out.trans (hb3.mono B2.out.size))
  clear hb3 hz2 x0 x1 x2 x3 x4 x5 x6 x7 x8 x9 x10 x11
  generalize stand s.lo.cut s.hi.cut = c at HF ⊢
  by_cases hc : c < 0
  · have HF2 : Hid (cnt s.sp = true) := by have := HF.out; unfold Hid; rw [this]; simp [hc]
    clear HF
    go_wp2
    go_ret
    exact ⟨by rw [HF2.out]; rfl, B3.out⟩
  · have HF2 : Hid (cnt s.sp = false) := by have := HF.out; unfold Hid; rw [this]; simp; omega
    have hd : decide (c < 0) = false := by simpa using hc
    clear HF
    go_wp2
    go_ret
    exact ⟨by rw [HF2.out]; rfl, B3.out⟩

end Go.Proofs.YtdbdeadcffpbfaaGreatDoor.Span
