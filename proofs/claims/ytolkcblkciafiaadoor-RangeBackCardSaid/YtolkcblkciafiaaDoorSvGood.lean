/-
  Which versions are right (semver.held, semver.Good). Conditions: the rows read as the lists pre and build; the texts' lengths are those that the form allows.
-/
import Derived.Test.YtolkcblkciafiaaDoorSvPlain
import Derived.Test.YtolkcblkciafiaaDoorSvSame
import Derived.Test.YtolkcblkciafiaaDoorIdGood
namespace Go.Proofs.YtolkcblkciafiaaDoor.Semver
open Go.RowKit Num Ident

def HeldAt (x y z i : Nat) : Prop := i = 0 ∨ (i = 1 ∧ x ≤ maxField) ∨ (i = 2 ∧ x ≤ maxField ∧ y ≤ maxField) ∨ (i = 3 ∧ x ≤ maxField ∧ y ≤ maxField ∧ z ≤ maxField)
def HeldJ (w : World) (x y z : Nat) (a' : Act) (w' : World) : Prop :=
  ∃ (i : Nat) (u4 u5 u6 u7 u8 u9 u10 u11 : Value), w' = w.alloc (.cells #[.int .u64 (x : Int), .int .u64 (y : Int), .int .u64 (z : Int)] 66) ∧ HeldAt x y z i ∧
    a' = { tmps := #[.agg #[.int .u64 (x : Int), .int .u64 (y : Int), .int .u64 (z : Int)], .pointer (some ⟨w.heap.size, 0, none⟩), .bool false, .int .i64 i, u4, u5, u6, u7, u8, u9, u10, u11], defers := [] }
def HeldM (a' : Act) (_ : World) : Nat := 4 - (intOf (a'.tmps.getD 3 undef)).toNat
set_option maxRecDepth 100000 in
set_option maxHeartbeats 800000 in
theorem held_any (x y z : Nat) (w : World) :
    Calls Tryd.prog 42 #[.agg #[.int .u64 (x : Int), .int .u64 (y : Int), .int .u64 (z : Int)]] w fun e w' => e = .returned (.bool (heldB x y z)) ∧ Below w.heap.size w w' := by
  have HB : Hid (Below w.heap.size w (w.alloc (.cells #[.int .u64 (x : Int), .int .u64 (y : Int), .int .u64 (z : Int)] 66))) := (Below.refl _ _).alloc (Nat.le_refl _) _
  go_enter Tryd.func42, Tryd.ntmps42
  go_wp2
  refine wp_scope_back 0 (HeldJ w x y z) HeldM rfl ?_ ?_
  · rintro a' w1 ⟨i, u4, u5, u6, u7, u8, u9, u10, u11, rfl, hat, rfl⟩
    rcases hat with rfl | ⟨rfl, h1⟩ | ⟨rfl, h1, h2⟩ | ⟨rfl, h1, h2, h3⟩
    · by_cases hx : (x : Int) ≤ 9223372036854775807
      · have HX := Lib.hid (field_le hx)
        go_wp2
        go_step3
        refine ⟨rfl, ⟨1, _, _, _, _, _, _, _, _, rfl, .inr (.inl ⟨rfl, HX.out⟩), rfl⟩, ?_⟩
        simp [HeldM, intOf]
      · have HF : Hid (heldB x y z = false) := heldB_no fun hh => field_no hx hh.1
        have hx2 : (9223372036854775807 : Int) < (x : Int) := by omega
        clear hx
        go_wp2
        simp only [Exit.jump]
        go_ret
        exact ⟨by rw [HF.out]; rfl, HB.out⟩
    · have H1 := Lib.hid h1; clear h1
      by_cases hx : (y : Int) ≤ 9223372036854775807
      · have HX := Lib.hid (field_le hx)
        go_wp2
        go_step3
        refine ⟨rfl, ⟨2, _, _, _, _, _, _, _, _, rfl, .inr (.inr (.inl ⟨rfl, H1.out, HX.out⟩)), rfl⟩, ?_⟩
        simp [HeldM, intOf]
      · have HF : Hid (heldB x y z = false) := heldB_no fun hh => field_no hx hh.2.1
        have hx2 : (9223372036854775807 : Int) < (y : Int) := by omega
        clear hx
        go_wp2
        simp only [Exit.jump]
        go_ret
        exact ⟨by rw [HF.out]; rfl, HB.out⟩
    · have H1 := Lib.hid h1; clear h1; have H2 := Lib.hid h2; clear h2
      by_cases hx : (z : Int) ≤ 9223372036854775807
      · have HX := Lib.hid (field_le hx)
        go_wp2
        go_step3
        refine ⟨rfl, ⟨3, _, _, _, _, _, _, _, _, rfl, .inr (.inr (.inr ⟨rfl, H1.out, H2.out, HX.out⟩)), rfl⟩, ?_⟩
        simp [HeldM, intOf]
      · have HF : Hid (heldB x y z = false) := heldB_no fun hh => field_no hx hh.2.2
        have hx2 : (9223372036854775807 : Int) < (z : Int) := by omega
        clear hx
        go_wp2
        simp only [Exit.jump]
        go_ret
        exact ⟨by rw [HF.out]; rfl, HB.out⟩
    · have HF := Lib.hid (heldB_yes h1 h2 h3)
      clear h1 h2 h3
      go_wp2
      simp only [Exit.jump]
      go_ret
      exact ⟨by rw [HF.out]; rfl, HB.out⟩
  · intro HP
    go_wp2
    go_step3
    rename_i hK
    exact hK _ _ (HP.out _ _ ⟨0, _, _, _, _, _, _, _, _, rfl, .inl rfl, rfl⟩)
set_option maxRecDepth 100000 in
set_option maxHeartbeats 1600000 in
theorem vgood_any (v : Ver) (A : Option Addr) (c : Nat) (B : Option Addr) (d : Nat) (w : World) (hr1 : SRow w A v.pre.length v.pre) (hr2 : SRow w B v.build.length v.build)
    (hn1 : v.pre.length ≤ maxLen) (hn2 : v.build.length ≤ maxLen) (hx1 : ∀ x ∈ v.pre, x.length ≤ maxLen) (hx2 : ∀ x ∈ v.build, x.length ≤ maxLen) :
    Calls Tryd.prog 36 #[.agg #[.int .u64 (v.a : Int), .int .u64 (v.b : Int), .int .u64 (v.c : Int), .slice A v.pre.length c, .slice B v.build.length d]] w fun e w' => e = .returned (.bool (goodV v)) ∧ Below w.heap.size w w' := by
  have R1 := Lib.hid hr1
  have R2 := Lib.hid hr2
  have N1 := Lib.hid hn1
  have N2 := Lib.hid hn2
  have X1 := Lib.hid hx1
  have X2 := Lib.hid hx2
  clear hr1 hr2 hn1 hn2 hx1 hx2
  have HBa := Lib.hid ((Below.refl w.heap.size w).alloc (Nat.le_refl _) (.cells #[.int .u64 (v.a : Int), .int .u64 (v.b : Int), .int .u64 (v.c : Int), .slice A v.pre.length c, .slice B v.build.length d] 26))
  have K0 := Lib.hid (At5.new w 26 (.int .u64 (v.a : Int)) (.int .u64 (v.b : Int)) (.int .u64 (v.c : Int)) (.slice A v.pre.length c) (.slice B v.build.length d))
  have HG : Hid (goodV v = (heldB v.a v.b v.c && (goodFrom true v.pre 0 && goodFrom false v.build 0))) := rfl
  go_enter Tryd.func36, Tryd.ntmps36
  go_wp2_with fail
  refine (coreOf_any _ _ _ _ _ _).mono ?_
  rintro e w1 ⟨rfl, hb1⟩
  have K1 := Lib.hid (K0.out.kept hb1 (by simp))
  have B1 := Lib.hid (HBa.out.trans (hb1.mono (by simp)))
  have hz1 := K1.out.1
  clear hb1 K0 HBa
  go_wp2_with fail
  refine (held_any _ _ _ _).mono ?_
  rintro e w2 ⟨rfl, hb2⟩
  have K2 := Lib.hid (K1.out.kept hb2 (by omega))
  have B2 := Lib.hid (B1.out.trans (hb2.mono (by omega)))
  have hz2 := K2.out.1
  clear hb2 K1 B1
  generalize heldB v.a v.b v.c = g1 at HG ⊢
  obtain ⟨_, _, x0, x1, x2, x3, x4⟩ := K2.out
  cases g1
  · go_wp2
    go_ret
    exact ⟨by rw [HG.out]; rfl, B2.out⟩
  go_wp2_with fail
  refine (good_any _ _ _ v.pre true _ (R1.out.kept B2.out) N1.out X1.out).mono ?_
  rintro e w3 ⟨rfl, hb3⟩
  have K3 := Lib.hid (K2.out.kept hb3 (by omega))
  have B3 := Lib.hid (B2.out.trans (hb3.mono (by omega)))
  clear hb3 x0 x1 x2 x3 x4
  generalize goodFrom true v.pre 0 = g2 at HG ⊢
  obtain ⟨hz3, _, x0, x1, x2, x3, x4⟩ := K3.out
  cases g2
  · go_wp2
    go_ret
    exact ⟨by rw [HG.out]; rfl, B3.out⟩
  go_wp2_with fail
  refine (good_any _ _ _ v.build false _ (R2.out.kept B3.out) N2.out X2.out).mono ?_
  rintro e w4 ⟨rfl, hb4⟩
  have B4 := Lib.hid (B3.out.trans (hb4.mono (by omega)))
  clear hb4 x0 x1 x2 x3 x4
  go_wp2
  go_ret
  exact ⟨by rw [HG.out]; simp, B4.out⟩
end Go.Proofs.YtolkcblkciafiaaDoor.Semver
