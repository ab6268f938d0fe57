/-
  What the theorem of the last text needs of these: PrCores, PrCmp, SpMath. Conditions: as each theorem states.
-/
import Derived.Test.YtgfbflnhjpbceaaGreatDoorHasB1
import Derived.Test.YtgfbflnhjpbceaaGreatDoorHasB3
import Derived.Test.YtgfbflnhjpbceaaGreatDoorHasB6
import Derived.StillTailTactics
import Derived.Deep.CutBlock
import Derived.Deep.DeepCutAuto
import Derived.Deep.RegionHeld3
set_option maxRecDepth 100000
set_option maxHeartbeats 25600000
namespace Go.Proofs.YtgfbflnhjpbceaaGreatDoor.Prec
open Go.RowKit Num Ident Semver

theorem cmpU_any (x y : Nat) (w : World) :
  Calls Tryz.prog 150 #[.int .u64 x, .int .u64 y] w fun e w' => e = .returned (.int .i64 (ordN x y)) ∧ w = w' := by
 rcases Nat.lt_trichotomy x y with h | h | h
 ·have HF := Lib.hid (ordN_lt h)
  go_enter Tryz.func150, Tryz.ntmps150
  go_wp2
  go_ret
  exact ⟨by rw [HF.out]; rfl, rfl⟩
 ·have HF := Lib.hid (ordN_eq h)
  subst h
  go_enter Tryz.func150, Tryz.ntmps150
  go_wp2
  go_ret
  exact ⟨by rw [HF.out]; rfl, rfl⟩
 ·have HF := Lib.hid (ordN_gt h)
  go_enter Tryz.func150, Tryz.ntmps150
  go_wp2
  go_ret
  exact ⟨by rw [HF.out]; rfl, rfl⟩

theorem coreOf_anyD (a b c : Int) (x y : Value) (w : World) :
  Calls Tryz.prog 123 #[.agg #[.int .u64 a, .int .u64 b, .int .u64 c, x, y]] w fun e w' => e = .returned (.agg #[.int .u64 a, .int .u64 b, .int .u64 c]) ∧ BelowD w.heap.size w w' := by
 go_enter Tryz.func123, Tryz.ntmps123
 go_wp2
 exact bodyPost_ret (v := .agg #[.int .u64 a, .int .u64 b, .int .u64 c]) (by simp [results, Tryz.results123, go_sem]) rfl ⟨rfl, ((BelowD.refl _ _).alloc (Nat.le_refl _) _).alloc (by simp) _⟩
theorem coreOf_any (a b c : Int) (x y : Value) (w : World) :
  Calls Tryz.prog 123 #[.agg #[.int .u64 a, .int .u64 b, .int .u64 c, x, y]] w fun e w' => e = .returned (.agg #[.int .u64 a, .int .u64 b, .int .u64 c]) ∧ Below w.heap.size w w' := dropD (coreOf_anyD a b c x y w)

def CoresAt (u v : Ver) (i : Nat) : Prop := i = 0 ∨ (i = 1 ∧ u.a = v.a) ∨ (i = 2 ∧ u.a = v.a ∧ u.b = v.b)
def CoresJ (w : World) (u v : Ver) (a' : Act) (w' : World) : Prop :=
 ∃ (i : Nat) (u6 u7 u8 u9 u10 u11 u12 u13 u14 u15 u16 u17 u18 u19 u20 u21 u22 u23 u24 : Value), BelowD w.heap.size w w' ∧ At3 w' w.heap.size (.int .u64 (u.a : Int)) (.int .u64 (u.b : Int)) (.int .u64 (u.c : Int)) ∧ At3 w' (w.heap.size + 1) (.int .u64 (v.a : Int)) (.int .u64 (v.b : Int)) (.int .u64 (v.c : Int)) ∧ CoresAt u v i ∧ ¬ (u.a = v.a ∧ u.b = v.b ∧ u.c = v.c) ∧
  a' = { tmps := #[.agg #[.int .u64 (u.a : Int), .int .u64 (u.b : Int), .int .u64 (u.c : Int)], .agg #[.int .u64 (v.a : Int), .int .u64 (v.b : Int), .int .u64 (v.c : Int)], .pointer (some ⟨w.heap.size, 0, none⟩), .pointer (some ⟨w.heap.size + 1, 0, none⟩), .int .i64 0, .int .i64 i, u6, u7, u8, u9, u10, u11, u12, u13, u14, u15, u16, u17, u18, u19, u20, u21, u22, u23, u24], defers := [] }
def CoresM (a' : Act) (_ : World) : Nat := 4 - (intOf (a'.tmps.getD 5 undef)).toNat
theorem beq_no {x y : Nat} (h : x ≠ y) : ((x : Int) == (y : Int)) = false := by simp; omega
theorem beq_yes {x y : Nat} (h : x = y) : ((x : Int) == (y : Int)) = true := by simp [h]

theorem cores_anyD (u v : Ver) (w : World) :
  Calls Tryz.prog 130 #[.agg #[.int .u64 (u.a : Int), .int .u64 (u.b : Int), .int .u64 (u.c : Int)], .agg #[.int .u64 (v.a : Int), .int .u64 (v.b : Int), .int .u64 (v.c : Int)]] w fun e w' => e = .returned (.int .i64 (cmpCore u v)) ∧ BelowD w.heap.size w w' := by
 have HBa : Hid (BelowD w.heap.size w ((w.alloc (.cells #[.int .u64 (u.a : Int), .int .u64 (u.b : Int), .int .u64 (u.c : Int)] 147)).alloc (.cells #[.int .u64 (v.a : Int), .int .u64 (v.b : Int), .int .u64 (v.c : Int)] 147))) := ((BelowD.refl _ _).alloc (Nat.le_refl _) _).alloc (by simp) _
 have K1 : Hid (At3 ((w.alloc (.cells #[.int .u64 (u.a : Int), .int .u64 (u.b : Int), .int .u64 (u.c : Int)] 147)).alloc (.cells #[.int .u64 (v.a : Int), .int .u64 (v.b : Int), .int .u64 (v.c : Int)] 147)) w.heap.size (.int .u64 (u.a : Int)) (.int .u64 (u.b : Int)) (.int .u64 (u.c : Int))) := (At3.new w 147 _ _ _).kept ((Below.refl _ _).alloc (Nat.le_refl _) _) (by simp)
 have K2 : Hid (At3 ((w.alloc (.cells #[.int .u64 (u.a : Int), .int .u64 (u.b : Int), .int .u64 (u.c : Int)] 147)).alloc (.cells #[.int .u64 (v.a : Int), .int .u64 (v.b : Int), .int .u64 (v.c : Int)] 147)) (w.heap.size + 1) (.int .u64 (v.a : Int)) (.int .u64 (v.b : Int)) (.int .u64 (v.c : Int))) := by
  have := At3.new (w.alloc (.cells #[.int .u64 (u.a : Int), .int .u64 (u.b : Int), .int .u64 (u.c : Int)] 147)) 147 (.int .u64 (v.a : Int)) (.int .u64 (v.b : Int)) (.int .u64 (v.c : Int))
  rw [size_alloc] at this; exact this
 go_enter Tryz.func130, Tryz.ntmps130
 go_wp2
 refine wp_scope_back 0 (CoresJ w u v) CoresM rfl ?_ ?_
 ·rintro a' w1 ⟨i, u6, u7, u8, u9, u10, u11, u12, u13, u14, u15, u16, u17, u18, u19, u20, u21, u22, u23, u24, hb1, k1, k2, hat, hne, rfl⟩
  have HB1 := Lib.hid hb1
  have L1 := Lib.hid k1
  have L2 := Lib.hid k2
  have hz1 := k2.1
  obtain ⟨_, _, x0, x1, x2⟩ := k1
  obtain ⟨_, _, y0, y1, y2⟩ := k2
  clear hb1
  rcases hat with rfl | ⟨rfl, h1⟩ | ⟨rfl, h1, h2⟩
  ·by_cases h : u.a = v.a
   ·have e1 := beq_yes h
    have HH := Lib.hid h
    have HN := Lib.hid hne
    clear h hne
    go_wp2
    go_still (by kernel_rfl)
    have HB2 := Lib.hid HB1.out.drew
    have M1 := Lib.hid (L1.out.kept (B := w1.heap.size) (Below.refl _ _).drew (by omega))
    have M2 := Lib.hid (L2.out.kept (B := w1.heap.size) (Below.refl _ _).drew (by omega))
    go_wp2
    go_step3
    refine ⟨rfl, ⟨1, _, _, _, _, _, _, _, _, _, _, _, _, _, _, _, _, _, _, _, HB2.out, M1.out, M2.out, .inr (.inl ⟨rfl, HH.out⟩), HN.out, rfl⟩, ?_⟩
    simp [CoresM, intOf]
   ·have e1 := beq_no h
    have HF : Hid (cmpCore u v = ordN u.a v.a) := cmpCore_1 h
    clear h hne
    go_wp2
    go_still (by kernel_rfl)
    have HB2 := Lib.hid HB1.out.drew
    have M1 := Lib.hid (L1.out.kept (B := w1.heap.size) (Below.refl _ _).drew (by omega))
    have M2 := Lib.hid (L2.out.kept (B := w1.heap.size) (Below.refl _ _).drew (by omega))
    clear x0 x1 x2 y0 y1 y2
    change Exit.then _ _ _ _ w1.drew
    generalize w1.drew = w2 at HB2 M1 M2 ⊢
    obtain ⟨_, _, x0, x1, x2⟩ := M1.out
    obtain ⟨_, _, y0, y1, y2⟩ := M2.out
    go_wp2
    go_still_tail 6, (by kernel_rfl)
    change wpList _ _ _ _ _ w2.drew
    have HB3 := Lib.hid HB2.out.drew
    generalize w2.drew = w3 at HB3 ⊢
    go_wp2_with fail
    refine (cmpU_any _ _ _).mono ?_
    rintro e w' ⟨rfl, rfl⟩
    go_wp2
    simp only [Exit.jump]
    go_ret
    exact ⟨by rw [HF.out]; rfl, HB3.out⟩
  ·have H1 := Lib.hid h1
   clear h1
   by_cases h : u.b = v.b
   ·have e1 := beq_yes h
    have HH := Lib.hid h
    have HN := Lib.hid hne
    clear h hne
    go_wp2
    go_still (by kernel_rfl)
    have HB2 := Lib.hid HB1.out.drew
    have M1 := Lib.hid (L1.out.kept (B := w1.heap.size) (Below.refl _ _).drew (by omega))
    have M2 := Lib.hid (L2.out.kept (B := w1.heap.size) (Below.refl _ _).drew (by omega))
    go_wp2
    go_step3
    refine ⟨rfl, ⟨2, _, _, _, _, _, _, _, _, _, _, _, _, _, _, _, _, _, _, _, HB2.out, M1.out, M2.out, .inr (.inr ⟨rfl, H1.out, HH.out⟩), HN.out, rfl⟩, ?_⟩
    simp [CoresM, intOf]
   ·have e1 := beq_no h
    have HF : Hid (cmpCore u v = ordN u.b v.b) := cmpCore_2 H1.out h
    clear h hne
    go_wp2
    go_still (by kernel_rfl)
    have HB2 := Lib.hid HB1.out.drew
    have M1 := Lib.hid (L1.out.kept (B := w1.heap.size) (Below.refl _ _).drew (by omega))
    have M2 := Lib.hid (L2.out.kept (B := w1.heap.size) (Below.refl _ _).drew (by omega))
    clear x0 x1 x2 y0 y1 y2
    change Exit.then _ _ _ _ w1.drew
    generalize w1.drew = w2 at HB2 M1 M2 ⊢
    obtain ⟨_, _, x0, x1, x2⟩ := M1.out
    obtain ⟨_, _, y0, y1, y2⟩ := M2.out
    go_wp2
    go_still_tail 6, (by kernel_rfl)
    change wpList _ _ _ _ _ w2.drew
    have HB3 := Lib.hid HB2.out.drew
    generalize w2.drew = w3 at HB3 ⊢
    go_wp2_with fail
    refine (cmpU_any _ _ _).mono ?_
    rintro e w' ⟨rfl, rfl⟩
    go_wp2
    simp only [Exit.jump]
    go_ret
    exact ⟨by rw [HF.out]; rfl, HB3.out⟩
  ·have H1 := Lib.hid h1
   have H2 := Lib.hid h2
   clear h1 h2
   by_cases h : u.c = v.c
   ·exact absurd ⟨H1.out, H2.out, h⟩ hne
   ·have e1 := beq_no h
    have HF : Hid (cmpCore u v = ordN u.c v.c) := cmpCore_3 H1.out H2.out
    clear h hne
    go_wp2
    go_still (by kernel_rfl)
    have HB2 := Lib.hid HB1.out.drew
    have M1 := Lib.hid (L1.out.kept (B := w1.heap.size) (Below.refl _ _).drew (by omega))
    have M2 := Lib.hid (L2.out.kept (B := w1.heap.size) (Below.refl _ _).drew (by omega))
    clear x0 x1 x2 y0 y1 y2
    change Exit.then _ _ _ _ w1.drew
    generalize w1.drew = w2 at HB2 M1 M2 ⊢
    obtain ⟨_, _, x0, x1, x2⟩ := M1.out
    obtain ⟨_, _, y0, y1, y2⟩ := M2.out
    go_wp2
    go_still_tail 6, (by kernel_rfl)
    change wpList _ _ _ _ _ w2.drew
    have HB3 := Lib.hid HB2.out.drew
    generalize w2.drew = w3 at HB3 ⊢
    go_wp2_with fail
    refine (cmpU_any _ _ _).mono ?_
    rintro e w' ⟨rfl, rfl⟩
    go_wp2
    simp only [Exit.jump]
    go_ret
    exact ⟨by rw [HF.out]; rfl, HB3.out⟩
 ·intro HP
  by_cases hn : u.a = v.a ∧ u.b = v.b ∧ u.c = v.c
  ·have HF : Hid (cmpCore u v = 0) := by
    unfold Hid
    rw [cmpCore_3 hn.1 hn.2.1]; exact ordN_eq hn.2.2
   have kq := fun W => run_eq3 u.a u.b u.c v.a v.b v.c W
   rw [beq_yes hn.1, beq_yes hn.2.1, beq_yes hn.2.2] at kq
   clear hn
   go_wp2
   simp only [Exit.jump]
   go_ret
   exact ⟨by rw [HF.out]; rfl, HBa.out⟩
  ·have HN := Lib.hid hn
   have hq : (((u.a : Int) == (v.a : Int)) && (((u.b : Int) == (v.b : Int)) && ((u.c : Int) == (v.c : Int)))) = false := by
    rw [← Bool.not_eq_true]; simp only [Bool.and_eq_true, beq_iff_eq]; omega
   have kq := fun W => run_eq3 u.a u.b u.c v.a v.b v.c W
   rw [hq] at kq
   clear hn hq
   go_wp2
   go_step3
   rename_i hK
   exact hK _ _ (HP.out _ _ ⟨0, _, _, _, _, _, _, _, _, _, _, _, _, _, _, _, _, _, _, _, HBa.out, K1.out, K2.out, .inl rfl, HN.out, rfl⟩)
end Go.Proofs.YtgfbflnhjpbceaaGreatDoor.Prec
namespace Go.Proofs.YtgfbflnhjpbceaaGreatDoor.Prec
open Go.RowKit Num Ident Semver

def Fit (xs : List (List UInt8)) : Prop := xs.length ≤ maxLen ∧ ∀ x ∈ xs, x.length ≤ maxLen
theorem Fit.nil : Fit [] := ⟨by unfold maxLen; simp, fun x hx => by simp at hx⟩
theorem Fit.zero : Fit [[48]] := ⟨by unfold maxLen; simp, fun x hx => by simp at hx; subst hx; unfold maxLen; simp⟩
theorem releases_anyD (A : Option Addr) (ca : Nat) (xs : List (List UInt8)) (B : Option Addr) (cb : Nat) (ys : List (List UInt8)) (w : World) (hA : SRow w A xs.length xs) (hB : SRow w B ys.length ys) (fx : Fit xs) (fy : Fit ys) :
  Calls Tryz.prog 131 #[.slice A xs.length ca, .slice B ys.length cb] w fun e w' => e = .returned (.int .i64 (cmpPre xs ys)) ∧ BelowD w.heap.size w w' := by
 have HA := Lib.hid hA
 have HB := Lib.hid hB
 have FX := Lib.hid fx
 have FY := Lib.hid fy
 have hx := fx.1
 have hy := fy.1
 unfold maxLen at hx hy
 clear hA hB fx fy
 by_cases h1 : xs.length = 0
 ·by_cases h2 : ys.length = 0
  ·have HF := Lib.hid (cmpPre_rows (x := xs) (y := ys) ⟨fun _ => h2, fun _ => h1⟩)
   have K : Hid (∀ W, W = w → Calls Tryz.prog 151 #[.slice A xs.length ca, .slice B ys.length cb] W fun e w' => e = .returned (.int .i64 (cmpPre xs ys)) ∧ BelowD w.heap.size w w') := by
    rintro W rfl; rw [HF.out]; exact rows_anyD A _ ca xs B _ cb ys W HA.out HB.out FX.out.1 FY.out.1 FX.out.2 FY.out.2
   rw [h1, h2] at K
   clear HF
   go_enter Tryz.func131, Tryz.ntmps131
   go_wp2_with fail
   refine (K.out _ rfl).mono ?_
   rintro e w1 ⟨rfl, hb1⟩
   go_wp2
   go_ret
   exact ⟨rfl, hb1⟩
  ·have HF := Lib.hid (cmpPre_one h1 h2)
   have h3 : 0 < ys.length := by omega
   go_enter Tryz.func131, Tryz.ntmps131
   go_wp2
   go_ret
   exact ⟨by rw [HF.out]; rfl, BelowD.refl _ _⟩
 ·have h3 : 0 < xs.length := by omega
  by_cases h2 : ys.length = 0
  ·have HF := Lib.hid (cmpPre_two h1 h2)
   go_enter Tryz.func131, Tryz.ntmps131
   go_wp2
   go_ret
   exact ⟨by rw [HF.out]; rfl, BelowD.refl _ _⟩
  ·have h4 : 0 < ys.length := by omega
   have HF := Lib.hid (cmpPre_rows (x := xs) (y := ys) ⟨fun h => absurd h h1, fun h => absurd h h2⟩)
   have K : Hid (∀ W, W = w → Calls Tryz.prog 151 #[.slice A xs.length ca, .slice B ys.length cb] W fun e w' => e = .returned (.int .i64 (cmpPre xs ys)) ∧ BelowD w.heap.size w w') := by
    rintro W rfl; rw [HF.out]; exact rows_anyD A _ ca xs B _ cb ys W HA.out HB.out FX.out.1 FY.out.1 FX.out.2 FY.out.2
   clear HF
   go_enter Tryz.func131, Tryz.ntmps131
   go_wp2_with fail
   refine (K.out _ rfl).mono ?_
   rintro e w1 ⟨rfl, hb1⟩
   go_wp2
   go_ret
   exact ⟨rfl, hb1⟩
theorem compare_anyD (u v : Ver) (A1 A2 B1 B2 : Option Addr) (c1 c2 d1 d2 : Nat) (w : World) (r1 : SRow w A1 u.pre.length u.pre) (q1 : SRow w B1 v.pre.length v.pre) (f1 : Fit u.pre) (g1 : Fit v.pre) :
  Calls Tryz.prog 110 #[.agg #[.int .u64 (u.a : Int), .int .u64 (u.b : Int), .int .u64 (u.c : Int), .slice A1 u.pre.length c1, .slice A2 u.build.length c2], .agg #[.int .u64 (v.a : Int), .int .u64 (v.b : Int), .int .u64 (v.c : Int), .slice B1 v.pre.length d1, .slice B2 v.build.length d2]] w fun e w' => e = .returned (.int .i64 (cmpV u v)) ∧ BelowD w.heap.size w w' := by
 have HB0 : Hid (BelowD w.heap.size w ((w.alloc (.cells #[.int .u64 (u.a : Int), .int .u64 (u.b : Int), .int .u64 (u.c : Int), .slice A1 u.pre.length c1, .slice A2 u.build.length c2] 25)).alloc (.cells #[.int .u64 (v.a : Int), .int .u64 (v.b : Int), .int .u64 (v.c : Int), .slice B1 v.pre.length d1, .slice B2 v.build.length d2] 25))) := ((BelowD.refl _ _).alloc (Nat.le_refl _) _).alloc (by simp) _
 have K1 : Hid (At5 ((w.alloc (.cells #[.int .u64 (u.a : Int), .int .u64 (u.b : Int), .int .u64 (u.c : Int), .slice A1 u.pre.length c1, .slice A2 u.build.length c2] 25)).alloc (.cells #[.int .u64 (v.a : Int), .int .u64 (v.b : Int), .int .u64 (v.c : Int), .slice B1 v.pre.length d1, .slice B2 v.build.length d2] 25)) w.heap.size (.int .u64 (u.a : Int)) (.int .u64 (u.b : Int)) (.int .u64 (u.c : Int)) (.slice A1 u.pre.length c1) (.slice A2 u.build.length c2)) := (At5.new w 25 _ _ _ _ _).kept ((Below.refl _ _).alloc (Nat.le_refl _) _) (by simp)
 have K2 : Hid (At5 ((w.alloc (.cells #[.int .u64 (u.a : Int), .int .u64 (u.b : Int), .int .u64 (u.c : Int), .slice A1 u.pre.length c1, .slice A2 u.build.length c2] 25)).alloc (.cells #[.int .u64 (v.a : Int), .int .u64 (v.b : Int), .int .u64 (v.c : Int), .slice B1 v.pre.length d1, .slice B2 v.build.length d2] 25)) (w.heap.size + 1) (.int .u64 (v.a : Int)) (.int .u64 (v.b : Int)) (.int .u64 (v.c : Int)) (.slice B1 v.pre.length d1) (.slice B2 v.build.length d2)) := by
  have := At5.new (w.alloc (.cells #[.int .u64 (u.a : Int), .int .u64 (u.b : Int), .int .u64 (u.c : Int), .slice A1 u.pre.length c1, .slice A2 u.build.length c2] 25)) 25 (.int .u64 (v.a : Int)) (.int .u64 (v.b : Int)) (.int .u64 (v.c : Int)) (.slice B1 v.pre.length d1) (.slice B2 v.build.length d2)
  rw [size_alloc] at this; exact this
 have R1 := Lib.hid r1
 have Q1 := Lib.hid q1
 have F1 := Lib.hid f1
 have G1 := Lib.hid g1
 clear r1 q1 f1 g1
 have HF : Hid (cmpV u v = if cmpCore u v = 0 then cmpPre u.pre v.pre else cmpCore u v) := rfl
 have HC : Hid (∀ W, Calls Tryz.prog 130 #[.agg #[.int .u64 (u.a : Int), .int .u64 (u.b : Int), .int .u64 (u.c : Int)], .agg #[.int .u64 (v.a : Int), .int .u64 (v.b : Int), .int .u64 (v.c : Int)]] W fun e w' => e = .returned (.int .i64 (cmpCore u v)) ∧ BelowD W.heap.size W w') := fun W => cores_anyD u v W
 generalize cmpCore u v = c at HF HC
 go_enter Tryz.func110, Tryz.ntmps110
 go_upto_region 1 with (fail)
 generalize ((w.alloc (.cells #[.int .u64 (u.a : Int), .int .u64 (u.b : Int), .int .u64 (u.c : Int), .slice A1 u.pre.length c1, .slice A2 u.build.length c2] 25)).alloc (.cells #[.int .u64 (v.a : Int), .int .u64 (v.b : Int), .int .u64 (v.c : Int), .slice B1 v.pre.length d1, .slice B2 v.build.length d2] 25)) = W at HB0 K1 K2 ⊢
 have hz := K2.out.1
 have hw := HB0.out.size
 have D0 := Lib.hid (BelowD.refl W.heap.size W).drew
 have D1 := Lib.hid (D0.out.mono (B' := w.heap.size) hw)
 refine wp_region_held_drew (S := fun w' => (w'.cell? ⟨w.heap.size, 0, none⟩ = some (.int .u64 (u.a : Int)) ∧ w'.cell? ⟨w.heap.size, 1, none⟩ = some (.int .u64 (u.b : Int)) ∧ w'.cell? ⟨w.heap.size, 2, none⟩ = some (.int .u64 (u.c : Int)) ∧ w'.cell? ⟨w.heap.size, 3, none⟩ = some (.slice A1 u.pre.length c1) ∧ w'.cell? ⟨w.heap.size, 4, none⟩ = some (.slice A2 u.build.length c2)) ∧ (w'.cell? ⟨(w.heap.size + 1), 0, none⟩ = some (.int .u64 (v.a : Int)) ∧ w'.cell? ⟨(w.heap.size + 1), 1, none⟩ = some (.int .u64 (v.b : Int)) ∧ w'.cell? ⟨(w.heap.size + 1), 2, none⟩ = some (.int .u64 (v.c : Int)) ∧ w'.cell? ⟨(w.heap.size + 1), 3, none⟩ = some (.slice B1 v.pre.length d1) ∧ w'.cell? ⟨(w.heap.size + 1), 4, none⟩ = some (.slice B2 v.build.length d2))) (by kernel_rfl) ⟨K1.out.2.2, K2.out.2.2⟩ (fun hHeld => ?_)
 refine tk 0 rfl (.agg #[.int .u64 (u.a : Int), .int .u64 (u.b : Int), .int .u64 (u.c : Int), .slice A1 u.pre.length c1, .slice A2 u.build.length c2]) ?_
 refine tk 2 rfl (.agg #[.int .u64 (v.a : Int), .int .u64 (v.b : Int), .int .u64 (v.c : Int), .slice B1 v.pre.length d1, .slice B2 v.build.length d2]) ?_
 refine cl 1 rfl fun K hK => ?_
 go_simp
 refine (coreOf_anyD _ _ _ _ _ _).mono ?_
 rintro e w2 ⟨rfl, hb2⟩
 have L1 := Lib.hid ((K1.out.kept D0.out.toBelow (by omega)).kept hb2.toBelow (by simp; omega))
 have L2 := Lib.hid ((K2.out.kept D0.out.toBelow (by omega)).kept hb2.toBelow (by simp; omega))
 have B2 := Lib.hid ((HB0.out.trans D1.out).trans (hb2.mono (by simp; omega)))
 have hz2 : W.heap.size ≤ w2.heap.size := by have := hb2.size; simpa using this
 clear hb2
 refine hK.out _ _ ⟨L1.out.2.2, L2.out.2.2⟩ (fun hHeld => ?_)
 clear hK K
 try simp only [Act.put, p1, p2, p3]
 refine cl 3 rfl fun K hK => ?_
 go_simp
 refine (coreOf_anyD _ _ _ _ _ _).mono ?_
 rintro e w3 ⟨rfl, hb3⟩
 have M1 := Lib.hid (L1.out.kept hb3.toBelow (by omega))
 have M2 := Lib.hid (L2.out.kept hb3.toBelow (by omega))
 have B3 := Lib.hid (B2.out.trans (hb3.mono (by omega)))
 have hz3 := hb3.size
 clear hb3
 refine hK.out _ _ ⟨M1.out.2.2, M2.out.2.2⟩ (fun hHeld => ?_)
 clear hK K
 try simp only [Act.put, p1, p2, p3]
 refine cl 4 rfl fun K hK => ?_
 go_simp
 refine (HC.out _).mono ?_
 rintro e w4 ⟨rfl, hb4⟩
 have N1 := Lib.hid (M1.out.kept hb4.toBelow (by omega))
 have N2 := Lib.hid (M2.out.kept hb4.toBelow (by omega))
 have B4 := Lib.hid (B3.out.trans (hb4.mono (by omega)))
 have hz4 := hb4.size
 clear hb4
 refine hK.out _ _ ⟨N1.out.2.2, N2.out.2.2⟩ (fun hHeld => ?_)
 clear hK K
 try simp only [Act.put, p1, p2, p3]
 refine tk 5 rfl (.int .i64 c) ?_
 refine wpAnyH_done (by kernel_rfl) ?_ _
 clear hHeld
 by_cases hc : c = 0
 ·have HF2 : Hid (cmpPre u.pre v.pre = cmpV u v) := by have := HF.out; rw [if_pos hc] at this; exact this.symm
  have KR : Hid (∀ W', W' = w4 → Calls Tryz.prog 131 #[.slice A1 u.pre.length c1, .slice B1 v.pre.length d1] W' fun e w' => e = .returned (.int .i64 (cmpV u v)) ∧ BelowD w4.heap.size w4 w') := by
   rintro W' rfl; rw [← HF2.out]; exact releases_anyD A1 c1 u.pre B1 d1 v.pre W' (R1.out.kept B4.out.toBelow) (Q1.out.kept B4.out.toBelow) F1.out G1.out
  subst hc
  obtain ⟨_, _, x0, x1, x2, x3, x4⟩ := N1.out
  obtain ⟨_, _, y0, y1, y2, y3, y4⟩ := N2.out
  clear HF HF2
  go_wp2_with fail
  refine (KR.out _ rfl).mono ?_
  rintro e w5 ⟨rfl, hb5⟩
  have B5 := Lib.hid (B4.out.trans (hb5.mono (by omega)))
  clear hb5
  go_wp2
  go_ret
  exact ⟨rfl, B5.out⟩
 ·have HF2 : Hid (cmpV u v = c) := by have := HF.out; rw [if_neg hc] at this; exact this
  have hn : (c == 0) = false := by simp [hc]
  have hn2 : (c != 0) = true := by simp [hc]
  clear HF hc
  go_wp2
  go_ret
  exact ⟨by rw [HF2.out]; rfl, B4.out⟩
theorem compare_any (u v : Ver) (A1 A2 B1 B2 : Option Addr) (c1 c2 d1 d2 : Nat) (w : World) (r1 : SRow w A1 u.pre.length u.pre) (q1 : SRow w B1 v.pre.length v.pre) (f1 : Fit u.pre) (g1 : Fit v.pre) :
  Calls Tryz.prog 110 #[.agg #[.int .u64 (u.a : Int), .int .u64 (u.b : Int), .int .u64 (u.c : Int), .slice A1 u.pre.length c1, .slice A2 u.build.length c2], .agg #[.int .u64 (v.a : Int), .int .u64 (v.b : Int), .int .u64 (v.c : Int), .slice B1 v.pre.length d1, .slice B2 v.build.length d2]] w fun e w' => e = .returned (.int .i64 (cmpV u v)) ∧ Below w.heap.size w w' := dropD (compare_anyD u v A1 A2 B1 B2 c1 c2 d1 d2 w r1 q1 f1 g1)
end Go.Proofs.YtgfbflnhjpbceaaGreatDoor.Prec
namespace Go.Proofs.YtgfbflnhjpbceaaGreatDoor.Span
open Go.RowKit Num Ident Semver Prec

structure Cut where
 kind : Int
 v : Ver
deriving DecidableEq
structure Sp where
 lo : Cut
 hi : Cut
deriving DecidableEq
def low : Cut := ⟨0, noVer⟩
def high : Cut := ⟨3, noVer⟩
instance : Inhabited Sp := ⟨⟨low, low⟩⟩
def ofVer (c : Cut) : Bool := decide (c.kind = 1 ∨ c.kind = 2)
theorem ofVer_iff (c : Cut) : ofVer c = true ↔ c.kind = 1 ∨ c.kind = 2 := by simp [ofVer]
theorem ofVer_no (c : Cut) : ofVer c = false ↔ ¬ (c.kind = 1 ∨ c.kind = 2) := by rw [← ofVer_iff]; cases ofVer c <;> simp
def right (c : Cut) : Bool := if c.kind = 0 ∨ c.kind = 3 then sameV c.v noVer else if c.kind = 1 ∨ c.kind = 2 then goodV c.v && decide (c.v.build.length = 0) else false
theorem right_ends {c : Cut} (h : c.kind = 0 ∨ c.kind = 3) : right c = sameV c.v noVer := by unfold right; rw [if_pos h]
theorem right_ver {c : Cut} (h : c.kind = 1 ∨ c.kind = 2) : right c = (goodV c.v && decide (c.v.build.length = 0)) := by unfold right; rw [if_neg (by omega), if_pos h]
theorem right_none {c : Cut} (h1 : ¬ (c.kind = 0 ∨ c.kind = 3)) (h2 : ¬ (c.kind = 1 ∨ c.kind = 2)) : right c = false := by unfold right; rw [if_neg h1, if_neg h2]
def ordI (x y : Int) : Int := if x < y then -1 else if y < x then 1 else 0
theorem ordI_lt {x y : Int} (h : x < y) : ordI x y = -1 := by unfold ordI; rw [if_pos h]
theorem ordI_gt {x y : Int} (h : y < x) : ordI x y = 1 := by unfold ordI; rw [if_neg (by omega), if_pos h]
theorem ordI_eq {x y : Int} (h : x = y) : ordI x y = 0 := by unfold ordI; rw [if_neg (by omega), if_neg (by omega)]
theorem ordI_cases (x y : Int) : (x < y ∧ ordI x y = -1) ∨ (x = y ∧ ordI x y = 0) ∨ (y < x ∧ ordI x y = 1) := by
 rcases Int.lt_trichotomy x y with h | h | h
 ·exact .inl ⟨h, ordI_lt h⟩
 ·exact .inr (.inl ⟨h, ordI_eq h⟩)
 ·exact .inr (.inr ⟨h, ordI_gt h⟩)
theorem ordI_ordr : Ordr ordI := by
 refine ⟨fun x y => ?_, fun x y z h1 h2 => ?_⟩
 ·rcases ordI_cases x y with ⟨a, b⟩ | ⟨a, b⟩ | ⟨a, b⟩ <;> rcases ordI_cases y x with ⟨c, d⟩ | ⟨c, d⟩ | ⟨c, d⟩ <;> omega
 ·rcases ordI_cases x y with ⟨a, b⟩ | ⟨a, b⟩ | ⟨a, b⟩ <;> rcases ordI_cases y z with ⟨c, d⟩ | ⟨c, d⟩ | ⟨c, d⟩ <;> rcases ordI_cases x z with ⟨e, f⟩ | ⟨e, f⟩ | ⟨e, f⟩ <;> omega
def stand (a b : Cut) : Int := if ofVer a = true ∧ ofVer b = true ∧ cmpV a.v b.v ≠ 0 then cmpV a.v b.v else ordI a.kind b.kind
def cmpC (a b : Cut) : Int := if right a = true ∧ right b = true then stand a b else ordI a.kind b.kind
theorem cmpC_right {a b : Cut} (h1 : right a = true) (h2 : right b = true) : cmpC a b = stand a b := by unfold cmpC; rw [if_pos ⟨h1, h2⟩]
def kc (c : Cut) : Int := if ofVer c = true then 1 else c.kind
def vk (c : Cut) : Ver := if ofVer c = true then c.v else noVer
theorem stand_lex (a b : Cut) : stand a b = lex (fun x y => ordI (kc x) (kc y)) (lex (fun x y => cmpV (vk x) (vk y)) fun x y => ordI x.kind y.kind) a b := by
 unfold stand
 by_cases h1 : ofVer a = true
 ·by_cases h2 : ofVer b = true
  ·have e1 : ordI (kc a) (kc b) = 0 := ordI_eq (by unfold kc; rw [if_pos h1, if_pos h2])
   have e2 : cmpV (vk a) (vk b) = cmpV a.v b.v := by unfold vk; rw [if_pos h1, if_pos h2]
   refine Eq.trans ?_ (lex_yes (f := fun x y => ordI (kc x) (kc y)) e1).symm
   by_cases h3 : cmpV a.v b.v = 0
   ·rw [if_neg (fun h => h.2.2 h3)]
    exact (lex_yes (f := fun x y => cmpV (vk x) (vk y)) (g := fun x y : Cut => ordI x.kind y.kind) (by show cmpV (vk a) (vk b) = 0; rw [e2]; exact h3)).symm
   ·rw [if_pos ⟨h1, h2, h3⟩, ← e2]
    exact (lex_no (f := fun x y => cmpV (vk x) (vk y)) (g := fun x y : Cut => ordI x.kind y.kind) (by show cmpV (vk a) (vk b) ≠ 0; rw [e2]; exact h3)).symm
  ·rw [if_neg (fun h => h2 h.2.1)]
   have ha := (ofVer_iff a).1 h1
   have hb := (ofVer_no b).1 (by simpa using h2)
   have e1 : kc a = 1 := by unfold kc; rw [if_pos h1]
   have e2 : kc b = b.kind := by unfold kc; rw [if_neg h2]
   have e3 : ordI (kc a) (kc b) = ordI a.kind b.kind := by
    rw [e1, e2]
    rcases ordI_cases 1 b.kind with ⟨c, d⟩ | ⟨c, d⟩ | ⟨c, d⟩ <;> rcases ordI_cases a.kind b.kind with ⟨e, f⟩ | ⟨e, f⟩ | ⟨e, f⟩ <;> omega
   refine Eq.trans e3.symm (lex_no (f := fun x y => ordI (kc x) (kc y)) ?_).symm
   show ordI (kc a) (kc b) ≠ 0
   rw [e3]; rcases ordI_cases a.kind b.kind with ⟨e, f⟩ | ⟨e, f⟩ | ⟨e, f⟩ <;> omega
 ·rw [if_neg (fun h => h1 h.1)]
  have ha := (ofVer_no a).1 (by simpa using h1)
  have e1 : kc a = a.kind := by unfold kc; rw [if_neg h1]
  have e0 : vk a = noVer := by unfold vk; rw [if_neg h1]
  by_cases h2 : ofVer b = true
  ·have hb := (ofVer_iff b).1 h2
   have e2 : kc b = 1 := by unfold kc; rw [if_pos h2]
   have e3 : ordI (kc a) (kc b) = ordI a.kind b.kind := by
    rw [e1, e2]
    rcases ordI_cases a.kind 1 with ⟨c, d⟩ | ⟨c, d⟩ | ⟨c, d⟩ <;> rcases ordI_cases a.kind b.kind with ⟨e, f⟩ | ⟨e, f⟩ | ⟨e, f⟩ <;> omega
   refine Eq.trans e3.symm (lex_no (f := fun x y => ordI (kc x) (kc y)) ?_).symm
   show ordI (kc a) (kc b) ≠ 0
   rw [e3]; rcases ordI_cases a.kind b.kind with ⟨e, f⟩ | ⟨e, f⟩ | ⟨e, f⟩ <;> omega
  ·have e2 : kc b = b.kind := by unfold kc; rw [if_neg h2]
   have e4 : vk b = noVer := by unfold vk; rw [if_neg h2]
   by_cases h3 : ordI (kc a) (kc b) = 0
   ·refine Eq.trans ?_ (lex_yes (f := fun x y => ordI (kc x) (kc y)) h3).symm
    exact (lex_yes (f := fun x y => cmpV (vk x) (vk y)) (g := fun x y : Cut => ordI x.kind y.kind) (by show cmpV (vk a) (vk b) = 0; rw [e0, e4]; exact cmpV_ordr.self noVer)).symm
   ·refine Eq.trans ?_ (lex_no (f := fun x y => ordI (kc x) (kc y)) h3).symm
    show ordI a.kind b.kind = ordI (kc a) (kc b)
    rw [e1, e2]
theorem stand_ordr : Ordr stand := by
 have h : stand = lex (fun x y => ordI (kc x) (kc y)) (lex (fun x y => cmpV (vk x) (vk y)) fun x y => ordI x.kind y.kind) := by
  funext a b; exact stand_lex a b
 rw [h]
 exact (ordI_ordr.on kc).lex ((cmpV_ordr.on vk).lex (ordI_ordr.on Cut.kind))
theorem stand_flip (a b : Cut) : stand b a = 0 - stand a b := stand_ordr.flip a b
theorem stand_self (a : Cut) : stand a a = 0 := stand_ordr.self a
theorem le_le {a b c : Cut} (h1 : stand a b ≤ 0) (h2 : stand b c ≤ 0) : stand a c ≤ 0 := stand_ordr.trans a b c h1 h2
theorem le_lt {a b c : Cut} (h1 : stand a b ≤ 0) (h2 : stand b c < 0) : stand a c < 0 := by
 have h3 := le_le h1 (show stand b c ≤ 0 by omega)
 rcases Int.lt_or_eq_of_le h3 with h | h
 ·exact h
 ·have h4 := stand_flip a c
  have h5 := le_le (show stand c a ≤ 0 by omega) h1
  have h6 := stand_flip b c
  omega
theorem lt_le {a b c : Cut} (h1 : stand a b < 0) (h2 : stand b c ≤ 0) : stand a c < 0 := by
 have h3 := le_le (show stand a b ≤ 0 by omega) h2
 rcases Int.lt_or_eq_of_le h3 with h | h
 ·exact h
 ·have h4 := stand_flip a c
  have h5 := le_le h2 (show stand c a ≤ 0 by omega)
  have h6 := stand_flip a b
  omega
theorem lt_lt {a b c : Cut} (h1 : stand a b < 0) (h2 : stand b c < 0) : stand a c < 0 := le_lt (by omega) h2
theorem not_lt {a b : Cut} (h : ¬ stand a b < 0) : stand b a ≤ 0 := by have := stand_flip a b; omega
theorem not_le {a b : Cut} (h : ¬ stand a b ≤ 0) : stand b a < 0 := by have := stand_flip a b; omega
theorem lt_not {a b : Cut} (h : stand a b < 0) : ¬ stand b a ≤ 0 := by have := stand_flip a b; omega
theorem le_not {a b : Cut} (h : stand a b ≤ 0) : ¬ stand b a < 0 := by have := stand_flip a b; omega
theorem like_flip {a b : Cut} (h : stand a b = 0) : stand b a = 0 := by have := stand_flip a b; omega

def inOne (s : Sp) (c : Cut) : Prop := stand s.lo c ≤ 0 ∧ stand c s.hi < 0
def inS (l : List Sp) (c : Cut) : Prop := ∃ s ∈ l, inOne s c
def cnt (s : Sp) : Bool := right s.lo && (right s.hi && decide (stand s.lo s.hi < 0))
theorem cnt_iff (s : Sp) : cnt s = true ↔ right s.lo = true ∧ right s.hi = true ∧ stand s.lo s.hi < 0 := by simp [cnt]
def inR (l : List Sp) (c : Cut) : Prop := ∃ s ∈ l, cnt s = true ∧ inOne s c
structure Norm (l : List Sp) : Prop where
 cnt : ∀ s ∈ l, cnt s = true
 gap : l.Pairwise fun s t => stand s.hi t.lo < 0
theorem Norm.nil : Norm [] := ⟨(fun s h => by cases h), List.Pairwise.nil⟩
theorem Norm.tail {s : Sp} {l : List Sp} (h : Norm (s :: l)) : Norm l := ⟨fun t ht => h.cnt t (List.mem_cons_of_mem _ ht), (List.pairwise_cons.1 h.gap).2⟩
theorem Norm.ahead {s : Sp} {l : List Sp} (h : Norm (s :: l)) : ∀ t ∈ l, stand s.hi t.lo < 0 := (List.pairwise_cons.1 h.gap).1
theorem Norm.head {s : Sp} {l : List Sp} (h : Norm (s :: l)) : right s.lo = true ∧ right s.hi = true ∧ stand s.lo s.hi < 0 := (cnt_iff s).1 (h.cnt s (List.mem_cons_self ..))
theorem Norm.inR {l : List Sp} (h : Norm l) (c : Cut) : inR l c ↔ inS l c := ⟨fun ⟨s, hs, _, hi⟩ => ⟨s, hs, hi⟩, fun ⟨s, hs, hi⟩ => ⟨s, hs, h.cnt s hs, hi⟩⟩
inductive Like : List Sp → List Sp → Prop
 | nil : Like [] []
 | cons {s t : Sp} {l m : List Sp} : stand s.lo t.lo = 0 → stand s.hi t.hi = 0 → Like l m → Like (s :: l) (t :: m)
theorem first_le {s : Sp} {l : List Sp} (h : Norm (s :: l)) {t : Sp} (ht : t ∈ s :: l) : stand s.lo t.lo ≤ 0 := by
 rcases List.mem_cons.1 ht with rfl | ht
 ·rw [stand_self]; exact Int.le_refl 0
 ·have h1 := h.ahead t ht
  have h2 := h.head.2.2
  have := lt_lt h2 h1
  omega
theorem unique : ∀ {l m : List Sp}, Norm l → Norm m → (∀ c, inS l c ↔ inS m c) → Like l m
 | [], [], _, _, _ => Like.nil
 | [], t :: m, _, hm, h => by
  obtain ⟨s, hs, _⟩ := (h t.lo).2 ⟨t, List.mem_cons_self .., by rw [stand_self]; exact Int.le_refl 0, hm.head.2.2⟩
  cases hs
 | s :: l, [], hl, _, h => by
  obtain ⟨t, ht, _⟩ := (h s.lo).1 ⟨s, List.mem_cons_self .., by rw [stand_self]; exact Int.le_refl 0, hl.head.2.2⟩
  cases ht
 | s :: l, t :: m, hl, hm, h => by
  have hs := hl.head.2.2
  have ht := hm.head.2.2
  obtain ⟨t', ht', i1⟩ := (h s.lo).1 ⟨s, List.mem_cons_self .., by rw [stand_self]; exact Int.le_refl 0, hs⟩
  obtain ⟨s', hs', i2⟩ := (h t.lo).2 ⟨t, List.mem_cons_self .., by rw [stand_self]; exact Int.le_refl 0, ht⟩
  have e1 := le_le (first_le hm ht') i1.1
  have e2 := le_le (first_le hl hs') i2.1
  have el : stand s.lo t.lo = 0 := by have := stand_flip s.lo t.lo; omega
  have eh : stand s.hi t.hi = 0 := by
   rcases Int.lt_trichotomy (stand s.hi t.hi) 0 with g | g | g
   ·exfalso
    obtain ⟨x, hx, i3⟩ := (h s.hi).2 ⟨t, List.mem_cons_self .., le_le e1 (by omega), g⟩
    rcases List.mem_cons.1 hx with rfl | hx
    ·have := i3.2; rw [stand_self] at this; omega
    ·exact lt_not (hl.ahead x hx) i3.1
   ·exact g
   ·exfalso
    have g2 : stand t.hi s.hi < 0 := by have := stand_flip s.hi t.hi; omega
    obtain ⟨x, hx, i3⟩ := (h t.hi).1 ⟨s, List.mem_cons_self .., le_le e2 (by omega), g2⟩
    rcases List.mem_cons.1 hx with rfl | hx
    ·have := i3.2; rw [stand_self] at this; omega
    ·exact lt_not (hm.ahead x hx) i3.1
  refine Like.cons el eh (unique hl.tail hm.tail fun c => ⟨fun ⟨x, hx, i⟩ => ?_, fun ⟨x, hx, i⟩ => ?_⟩)
  ·obtain ⟨y, hy, j⟩ := (h c).1 ⟨x, List.mem_cons_of_mem _ hx, i⟩
   rcases List.mem_cons.1 hy with rfl | hy
   ·exfalso
    have h1 := lt_le (hl.ahead x hx) i.1
    have h2 := lt_lt h1 j.2
    have := stand_flip s.hi y.hi
    omega
   ·exact ⟨y, hy, j⟩
  ·obtain ⟨y, hy, j⟩ := (h c).2 ⟨x, List.mem_cons_of_mem _ hx, i⟩
   rcases List.mem_cons.1 hy with rfl | hy
   ·exfalso
    have h1 := lt_le (hm.ahead x hx) i.1
    have h2 := lt_lt h1 j.2
    have := stand_flip y.hi t.hi
    omega
   ·exact ⟨y, hy, j⟩

theorem sameV_none {v : Ver} (h : sameV v noVer = true) : v = noVer := by
 unfold sameV at h
 rw [Bool.and_eq_true, decide_eq_true_eq, Bool.and_eq_true, sameB_iff, sameB_iff] at h
 obtain ⟨⟨h1, h2, h3⟩, h4, h5⟩ := h
 cases v; simp only [noVer] at *; subst h1; subst h2; subst h3; subst h4; subst h5; rfl
theorem good_len (pre : Bool) : ∀ (xs : List (List UInt8)) (i : Nat), i ≤ 16 → goodFrom pre xs i = true → i + xs.length ≤ 16
 | [], i, hi, _ => by simpa using hi
 | x :: r, i, hi, h => by
  rw [goodFrom] at h
  simp only [Bool.and_eq_true, beq_iff_eq] at h
  have h1 := (fault_pos h.1.1).2.2
  have := good_len pre r (i + 1) (by omega) h.2
  simp; omega
theorem right_few {c : Cut} (h : right c = true) : c.v.pre.length ≤ 16 ∧ c.v.build = [] := by
 by_cases h1 : c.kind = 0 ∨ c.kind = 3
 ·rw [right_ends h1] at h
  rw [sameV_none h]; exact ⟨by simp [noVer], rfl⟩
 ·by_cases h2 : c.kind = 1 ∨ c.kind = 2
  ·rw [right_ver h2, Bool.and_eq_true, decide_eq_true_eq] at h
   refine ⟨?_, List.eq_nil_of_length_eq_zero h.2⟩
   have hg := h.1
   unfold goodV at hg
   rw [Bool.and_eq_true, Bool.and_eq_true] at hg
   have := good_len true c.v.pre 0 (by omega) hg.2.1
   omega
  ·rw [right_none h1 h2] at h; cases h
theorem right_bare {c : Cut} (h : right c = true) : bare c.v = c.v := by
 have := (right_few h).2
 unfold bare; rw [← this]
theorem low_right : right low = true := by rw [right_ends (.inl rfl)]; exact sameV_self noVer
theorem high_right : right high = true := by rw [right_ends (.inr rfl)]; exact sameV_self noVer
theorem low_high : stand low high < 0 := by
 unfold stand; rw [if_neg (by rintro ⟨h, _⟩; exact absurd h (by decide))]; exact (show (-1 : Int) < 0 by omega)
theorem right_kind {c : Cut} (h : right c = true) : c.kind = 0 ∨ c.kind = 1 ∨ c.kind = 2 ∨ c.kind = 3 := by
 by_cases h1 : c.kind = 0 ∨ c.kind = 3
 ·omega
 ·by_cases h2 : c.kind = 1 ∨ c.kind = 2
  ·omega
  ·rw [right_none h1 h2] at h; cases h
theorem stand_kind {a b : Cut} (h : ¬ (ofVer a = true ∧ ofVer b = true)) : stand a b = ordI a.kind b.kind := by
 unfold stand; rw [if_neg (fun k => h ⟨k.1, k.2.1⟩)]
theorem low_le {c : Cut} (h : right c = true) : stand low c ≤ 0 := by
 rw [stand_kind (by rintro ⟨h, _⟩; exact absurd h (by decide))]
 have := right_kind h
 have e : low.kind = 0 := rfl
 rcases ordI_cases low.kind c.kind with ⟨a, b⟩ | ⟨a, b⟩ | ⟨a, b⟩ <;> omega
theorem le_high {c : Cut} (h : right c = true) : stand c high ≤ 0 := by
 rw [stand_kind (by rintro ⟨_, h⟩; exact absurd h (by decide))]
 have := right_kind h
 have e : high.kind = 3 := rfl
 rcases ordI_cases c.kind high.kind with ⟨a, b⟩ | ⟨a, b⟩ | ⟨a, b⟩ <;> omega

def aheadOf (v : Ver) : Cut := ⟨1, bare v⟩
def behindOf (v : Ver) : Cut := ⟨2, bare v⟩
theorem ahead_behind (v : Ver) : stand (aheadOf v) (behindOf v) < 0 := by
 have h : cmpV (bare v) (bare v) = 0 := cmpV_ordr.self _
 unfold stand
 rw [if_neg (fun k => k.2.2 h)]; exact (show (-1 : Int) < 0 by omega)
theorem behind_le (c : Cut) (v : Ver) : stand (aheadOf v) c < 0 ↔ stand (behindOf v) c ≤ 0 := by
 constructor
 ·intro hc
  by_cases hv : ofVer c = true
  ·have hk := (ofVer_iff c).1 hv
   by_cases h0 : cmpV (bare v) c.v = 0
   ·have e1 : stand (aheadOf v) c = ordI 1 c.kind := by unfold stand; rw [if_neg (fun k => k.2.2 h0)]; rfl
    have e2 : stand (behindOf v) c = ordI 2 c.kind := by unfold stand; rw [if_neg (fun k => k.2.2 h0)]; rfl
    rw [e1] at hc
    rw [e2]
    rcases ordI_cases 1 c.kind with ⟨a, b⟩ | ⟨a, b⟩ | ⟨a, b⟩ <;> rcases ordI_cases 2 c.kind with ⟨e, f⟩ | ⟨e, f⟩ | ⟨e, f⟩ <;> omega
   ·have e1 : stand (aheadOf v) c = cmpV (bare v) c.v := by unfold stand; rw [if_pos ⟨rfl, hv, h0⟩]; rfl
    have e2 : stand (behindOf v) c = cmpV (bare v) c.v := by unfold stand; rw [if_pos ⟨rfl, hv, h0⟩]; rfl
    omega
  ·have hk := (ofVer_no c).1 (by simpa using hv)
   rw [stand_kind (fun k => hv k.2)] at hc ⊢
   have e1 : (aheadOf v).kind = 1 := rfl
   have e2 : (behindOf v).kind = 2 := rfl
   rcases ordI_cases (aheadOf v).kind c.kind with ⟨a, b⟩ | ⟨a, b⟩ | ⟨a, b⟩ <;> rcases ordI_cases (behindOf v).kind c.kind with ⟨e, f⟩ | ⟨e, f⟩ | ⟨e, f⟩ <;> omega
 ·intro hc
  exact lt_le (ahead_behind v) hc

def goodS (l : List Sp) : Bool := (List.range l.length).all fun i => cnt (l.getD i default) && (decide (i = 0) || decide (stand (l.getD (i - 1) default).hi (l.getD i default).lo < 0))
theorem goodS_iff (l : List Sp) : goodS l = true ↔ ∀ i, i < l.length → cnt (l.getD i default) = true ∧ (i = 0 ∨ stand (l.getD (i - 1) default).hi (l.getD i default).lo < 0) := by
 simp [goodS, List.all_eq_true]
theorem goodS_cons {s : Sp} {l : List Sp} : goodS (s :: l) = true ↔ cnt s = true ∧ (l = [] ∨ stand s.hi (l.getD 0 default).lo < 0) ∧ goodS l = true := by
 rw [goodS_iff, goodS_iff]
 constructor
 ·intro h
  have h0 := h 0 (by simp)
  refine ⟨h0.1, ?_, fun i hi => ?_⟩
  ·cases l with
   | nil => exact .inl rfl
   | cons t l =>
    have h1 := h 1 (by simp)
    rcases h1.2 with h2 | h2
    ·omega
    ·exact .inr h2
  ·have h1 := h (i + 1) (by simp; omega)
   refine ⟨h1.1, ?_⟩
   rcases Nat.eq_zero_or_pos i with h2 | h2
   ·exact .inl h2
   ·right
    rcases h1.2 with h3 | h3
    ·omega
    ·obtain ⟨j, rfl⟩ : ∃ j, i = j + 1 := ⟨i - 1, by omega⟩
     exact h3
 ·rintro ⟨h1, h2, h3⟩ i hi
  rcases Nat.eq_zero_or_pos i with h4 | h4
  ·subst h4; exact ⟨h1, .inl rfl⟩
  ·obtain ⟨j, rfl⟩ : ∃ j, i = j + 1 := ⟨i - 1, by omega⟩
   have h5 := h3 j (by simp at hi; omega)
   refine ⟨h5.1, .inr ?_⟩
   rcases Nat.eq_zero_or_pos j with h6 | h6
   ·subst h6
    rcases h2 with h7 | h7
    ·subst h7; simp at hi
    ·exact h7
   ·obtain ⟨k, rfl⟩ : ∃ k, j = k + 1 := ⟨j - 1, by omega⟩
    rcases h5.2 with h7 | h7
    ·omega
    ·exact h7
theorem goodS_norm : ∀ l : List Sp, goodS l = true ↔ Norm l
 | [] => ⟨fun _ => Norm.nil, fun _ => rfl⟩
 | s :: l => by
  rw [goodS_cons, goodS_norm l]
  constructor
  ·rintro ⟨h1, h2, h3⟩
   refine ⟨fun t ht => ?_, List.pairwise_cons.2 ⟨fun t ht => ?_, h3.gap⟩⟩
   ·rcases List.mem_cons.1 ht with rfl | ht
    ·exact h1
    ·exact h3.cnt t ht
   ·cases l with
    | nil => cases ht
    | cons x l =>
     rcases h2 with h2 | h2
     ·cases h2
     ·exact lt_le h2 (first_le h3 ht)
  ·intro h
   refine ⟨h.cnt s (List.mem_cons_self ..), ?_, h.tail⟩
   cases l with
   | nil => exact .inl rfl
   | cons x l => exact .inr (h.ahead x (List.mem_cons_self ..))
end Go.Proofs.YtgfbflnhjpbceaaGreatDoor.Span
