/-
  How two numbers stand (cmp.Compare at uint64), a version's numbers (prec.coreOf), how two versions' numbers stand (prec.cores), how rows ahead of release stand (prec.releases). Conditions: the rows read as the lists xs and ys; the texts' lengths are those that the form allows.
-/
import Derived.Test.YtdbdeadcffpbfaaGreatDoorPrMath
import Derived.Test.YtdbdeadcffpbfaaGreatDoorPrEq
import Derived.Test.YtdbdeadcffpbfaaGreatDoorSvMem
import Derived.Test.YtdbdeadcffpbfaaGreatDoorIdRows
import Derived.StillTailTactics
namespace Go.Proofs.YtdbdeadcffpbfaaGreatDoor.Prec
open Go.RowKit Num Ident Semver

set_option maxRecDepth 100000 in
set_option maxHeartbeats 800000 in
theorem cmpU_any (x y : Nat) (w : World) :
    Calls Tryz.prog 59 #[.int .u64 x, .int .u64 y] w fun e w' => e = .returned (.int .i64 (ordN x y)) ∧ w = w' := by
  rcases Nat.lt_trichotomy x y with h | h | h
  · have HF := Lib.hid (ordN_lt h)
    go_enter Tryz.func59, Tryz.ntmps59
    go_wp2
    go_ret
    exact ⟨by rw [HF.out]; rfl, rfl⟩
  · have HF := Lib.hid (ordN_eq h)
    subst h
    go_enter Tryz.func59, Tryz.ntmps59
    go_wp2
    go_ret
    exact ⟨by rw [HF.out]; rfl, rfl⟩
  · have HF := Lib.hid (ordN_gt h)
    go_enter Tryz.func59, Tryz.ntmps59
    go_wp2
    go_ret
    exact ⟨by rw [HF.out]; rfl, rfl⟩

set_option maxRecDepth 100000 in
set_option maxHeartbeats 800000 in
theorem coreOf_anyD (a b c : Int) (x y : Value) (w : World) :
    Calls Tryz.prog 49 #[.agg #[.int .u64 a, .int .u64 b, .int .u64 c, x, y]] w fun e w' => e = .returned (.agg #[.int .u64 a, .int .u64 b, .int .u64 c]) ∧ BelowD w.heap.size w w' := by
  go_enter Tryz.func49, Tryz.ntmps49
  go_wp2
  exact bodyPost_ret (v := .agg #[.int .u64 a, .int .u64 b, .int .u64 c]) (by simp [results, Tryz.results49, go_sem]) rfl ⟨rfl, ((BelowD.refl _ _).alloc (Nat.le_refl _) _).alloc (by simp) _⟩
theorem coreOf_any (a b c : Int) (x y : Value) (w : World) :
    Calls Tryz.prog 49 #[.agg #[.int .u64 a, .int .u64 b, .int .u64 c, x, y]] w fun e w' => e = .returned (.agg #[.int .u64 a, .int .u64 b, .int .u64 c]) ∧ Below w.heap.size w w' := dropD (coreOf_anyD a b c x y w)

def CoresAt (u v : Ver) (i : Nat) : Prop := i = 0 ∨ (i = 1 ∧ u.a = v.a) ∨ (i = 2 ∧ u.a = v.a ∧ u.b = v.b)
def CoresJ (w : World) (u v : Ver) (a' : Act) (w' : World) : Prop :=
  ∃ (i : Nat) (u6 u7 u8 u9 u10 u11 u12 u13 u14 u15 u16 u17 u18 u19 u20 u21 u22 u23 u24 : Value), BelowD w.heap.size w w' ∧ At3 w' w.heap.size (.int .u64 (u.a : Int)) (.int .u64 (u.b : Int)) (.int .u64 (u.c : Int)) ∧ At3 w' (w.heap.size + 1) (.int .u64 (v.a : Int)) (.int .u64 (v.b : Int)) (.int .u64 (v.c : Int)) ∧ CoresAt u v i ∧ ¬ (u.a = v.a ∧ u.b = v.b ∧ u.c = v.c) ∧
    a' = { tmps := #[.agg #[.int .u64 (u.a : Int), .int .u64 (u.b : Int), .int .u64 (u.c : Int)], .agg #[.int .u64 (v.a : Int), .int .u64 (v.b : Int), .int .u64 (v.c : Int)], .pointer (some ⟨w.heap.size, 0, none⟩), .pointer (some ⟨w.heap.size + 1, 0, none⟩), .int .i64 0, .int .i64 i, u6, u7, u8, u9, u10, u11, u12, u13, u14, u15, u16, u17, u18, u19, u20, u21, u22, u23, u24], defers := [] }
def CoresM (a' : Act) (_ : World) : Nat := 4 - (intOf (a'.tmps.getD 5 undef)).toNat
theorem beq_no {x y : Nat} (h : x ≠ y) : ((x : Int) == (y : Int)) = false := by simp; omega
theorem beq_yes {x y : Nat} (h : x = y) : ((x : Int) == (y : Int)) = true := by simp [h]

set_option maxRecDepth 100000 in
set_option maxHeartbeats 1600000 in
theorem cores_anyD (u v : Ver) (w : World) :
    Calls Tryz.prog 48 #[.agg #[.int .u64 (u.a : Int), .int .u64 (u.b : Int), .int .u64 (u.c : Int)], .agg #[.int .u64 (v.a : Int), .int .u64 (v.b : Int), .int .u64 (v.c : Int)]] w fun e w' => e = .returned (.int .i64 (cmpCore u v)) ∧ BelowD w.heap.size w w' := by
  have HBa : Hid (BelowD w.heap.size w ((w.alloc (.cells #[.int .u64 (u.a : Int), .int .u64 (u.b : Int), .int .u64 (u.c : Int)] 73)).alloc (.cells #[.int .u64 (v.a : Int), .int .u64 (v.b : Int), .int .u64 (v.c : Int)] 73))) := ((BelowD.refl _ _).alloc (Nat.le_refl _) _).alloc (by simp) _
  have K1 : Hid (At3 ((w.alloc (.cells #[.int .u64 (u.a : Int), .int .u64 (u.b : Int), .int .u64 (u.c : Int)] 73)).alloc (.cells #[.int .u64 (v.a : Int), .int .u64 (v.b : Int), .int .u64 (v.c : Int)] 73)) w.heap.size (.int .u64 (u.a : Int)) (.int .u64 (u.b : Int)) (.int .u64 (u.c : Int))) := (At3.new w 73 _ _ _).kept ((Below.refl _ _).alloc (Nat.le_refl _) _) (by simp)
  have K2 : Hid (At3 ((w.alloc (.cells #[.int .u64 (u.a : Int), .int .u64 (u.b : Int), .int .u64 (u.c : Int)] 73)).alloc (.cells #[.int .u64 (v.a : Int), .int .u64 (v.b : Int), .int .u64 (v.c : Int)] 73)) (w.heap.size + 1) (.int .u64 (v.a : Int)) (.int .u64 (v.b : Int)) (.int .u64 (v.c : Int))) := by
    have := At3.new (w.alloc (.cells #[.int .u64 (u.a : Int), .int .u64 (u.b : Int), .int .u64 (u.c : Int)] 73)) 73 (.int .u64 (v.a : Int)) (.int .u64 (v.b : Int)) (.int .u64 (v.c : Int))
    rw [size_alloc] at this; exact this
  go_enter Tryz.func48, Tryz.ntmps48
  go_wp2
  refine wp_scope_back 0 (CoresJ w u v) CoresM rfl ?_ ?_
  · rintro a' w1 ⟨i, u6, u7, u8, u9, u10, u11, u12, u13, u14, u15, u16, u17, u18, u19, u20, u21, u22, u23, u24, hb1, k1, k2, hat, hne, rfl⟩
    have HB1 := Lib.hid hb1
    have L1 := Lib.hid k1
    have L2 := Lib.hid k2
    have hz1 := k2.1
    obtain ⟨_, _, x0, x1, x2⟩ := k1
    obtain ⟨_, _, y0, y1, y2⟩ := k2
    clear hb1
    rcases hat with rfl | ⟨rfl, h1⟩ | ⟨rfl, h1, h2⟩
    · by_cases h : u.a = v.a
      · have e1 := beq_yes h
        have HH := Lib.hid h
        have HN := Lib.hid hne
        clear h hne
        go_wp2
        go_still (by kernel_rfl)
        have HB2 := Lib.hid HB1.out.drew
        have M1 := Lib.hid (L1.out.kept (B := w1.heap.size) (Below.refl _ _).drew (by omega))
        have M2 := Lib.hid (L2.out.kept (B := w1.heap.size) (Below.refl _ _).drew (by omega))
        go_wp2
        go_step3
        refine ⟨rfl, ⟨1, _, _, _, _, _, _, _, _, _, _, _, _, _, _, _, _, _, _, _, HB2.out, M1.out, M2.out, .inr (.inl ⟨rfl, HH.out⟩), HN.out, rfl⟩, ?_⟩
        simp [CoresM, intOf]
      · have e1 := beq_no h
        have HF : Hid (cmpCore u v = ordN u.a v.a) := cmpCore_1 h
        clear h hne
        go_wp2
        go_still (by kernel_rfl)
        have HB2 := Lib.hid HB1.out.drew
        have M1 := Lib.hid (L1.out.kept (B := w1.heap.size) (Below.refl _ _).drew (by omega))
        have M2 := Lib.hid (L2.out.kept (B := w1.heap.size) (Below.refl _ _).drew (by omega))
        clear x0 x1 x2 y0 y1 y2
        change Exit.then _ _ _ _ w1.drew
        generalize w1.drew = w2 at HB2 M1 M2 ⊢
        obtain ⟨_, _, x0, x1, x2⟩ := M1.out
        obtain ⟨_, _, y0, y1, y2⟩ := M2.out
        go_wp2
        go_still_tail 6, (by kernel_rfl)
        change wpList _ _ _ _ _ w2.drew
        have HB3 := Lib.hid HB2.out.drew
        generalize w2.drew = w3 at HB3 ⊢
        go_wp2_with fail
        refine (cmpU_any _ _ _).mono ?_
        rintro e w' ⟨rfl, rfl⟩
        go_wp2
        simp only [Exit.jump]
        go_ret
        exact ⟨by rw [HF.out]; rfl, HB3.out⟩
    · have H1 := Lib.hid h1
      clear h1
      by_cases h : u.b = v.b
      · have e1 := beq_yes h
        have HH := Lib.hid h
        have HN := Lib.hid hne
        clear h hne
        go_wp2
        go_still (by kernel_rfl)
        have HB2 := Lib.hid HB1.out.drew
        have M1 := Lib.hid (L1.out.kept (B := w1.heap.size) (Below.refl _ _).drew (by omega))
        have M2 := Lib.hid (L2.out.kept (B := w1.heap.size) (Below.refl _ _).drew (by omega))
        go_wp2
        go_step3
        refine ⟨rfl, ⟨2, _, _, _, _, _, _, _, _, _, _, _, _, _, _, _, _, _, _, _, HB2.out, M1.out, M2.out, .inr (.inr ⟨rfl, H1.out, HH.out⟩), HN.out, rfl⟩, ?_⟩
        simp [CoresM, intOf]
      · have e1 := beq_no h
        have HF : Hid (cmpCore u v = ordN u.b v.b) := cmpCore_2 H1.out h
        clear h hne
        go_wp2
        go_still (by kernel_rfl)
        have HB2 := Lib.hid HB1.out.drew
        have M1 := Lib.hid (L1.out.kept (B := w1.heap.size) (Below.refl _ _).drew (by omega))
        have M2 := Lib.hid (L2.out.kept (B := w1.heap.size) (Below.refl _ _).drew (by omega))
        clear x0 x1 x2 y0 y1 y2
        change Exit.then _ _ _ _ w1.drew
        generalize w1.drew = w2 at HB2 M1 M2 ⊢
        obtain ⟨_, _, x0, x1, x2⟩ := M1.out
        obtain ⟨_, _, y0, y1, y2⟩ := M2.out
        go_wp2
        go_still_tail 6, (by kernel_rfl)
        change wpList _ _ _ _ _ w2.drew
        have HB3 := Lib.hid HB2.out.drew
        generalize w2.drew = w3 at HB3 ⊢
        go_wp2_with fail
        refine (cmpU_any _ _ _).mono ?_
        rintro e w' ⟨rfl, rfl⟩
        go_wp2
        simp only [Exit.jump]
        go_ret
        exact ⟨by rw [HF.out]; rfl, HB3.out⟩
    · have H1 := Lib.hid h1
      have H2 := Lib.hid h2
      clear h1 h2
      by_cases h : u.c = v.c
      · exact absurd ⟨H1.out, H2.out, h⟩ hne
      · have e1 := beq_no h
        have HF : Hid (cmpCore u v = ordN u.c v.c) := cmpCore_3 H1.out H2.out
        clear h hne
        go_wp2
        go_still (by kernel_rfl)
        have HB2 := Lib.hid HB1.out.drew
        have M1 := Lib.hid (L1.out.kept (B := w1.heap.size) (Below.refl _ _).drew (by omega))
        have M2 := Lib.hid (L2.out.kept (B := w1.heap.size) (Below.refl _ _).drew (by omega))
        clear x0 x1 x2 y0 y1 y2
        change Exit.then _ _ _ _ w1.drew
        generalize w1.drew = w2 at HB2 M1 M2 ⊢
        obtain ⟨_, _, x0, x1, x2⟩ := M1.out
        obtain ⟨_, _, y0, y1, y2⟩ := M2.out
        go_wp2
        go_still_tail 6, (by kernel_rfl)
        change wpList _ _ _ _ _ w2.drew
        have HB3 := Lib.hid HB2.out.drew
        generalize w2.drew = w3 at HB3 ⊢
        go_wp2_with fail
        refine (cmpU_any _ _ _).mono ?_
        rintro e w' ⟨rfl, rfl⟩
        go_wp2
        simp only [Exit.jump]
        go_ret
        exact ⟨by rw [HF.out]; rfl, HB3.out⟩
  · intro HP
    by_cases hn : u.a = v.a ∧ u.b = v.b ∧ u.c = v.c
    · have HF : Hid (cmpCore u v = 0) := by
        unfold Hid
        rw [cmpCore_3 hn.1 hn.2.1]; exact ordN_eq hn.2.2
      have kq := fun W => run_eq3 u.a u.b u.c v.a v.b v.c W
      rw [beq_yes hn.1, beq_yes hn.2.1, beq_yes hn.2.2] at kq
      clear hn
      go_wp2
      simp only [Exit.jump]
      go_ret
      exact ⟨by rw [HF.out]; rfl, HBa.out⟩
    · have HN := Lib.hid hn
      have hq : (((u.a : Int) == (v.a : Int)) && (((u.b : Int) == (v.b : Int)) && ((u.c : Int) == (v.c : Int)))) = false := by
        rw [← Bool.not_eq_true]; simp only [Bool.and_eq_true, beq_iff_eq]; omega
      have kq := fun W => run_eq3 u.a u.b u.c v.a v.b v.c W
      rw [hq] at kq
      clear hn hq
      go_wp2
      go_step3
      rename_i hK
      exact hK _ _ (HP.out _ _ ⟨0, _, _, _, _, _, _, _, _, _, _, _, _, _, _, _, _, _, _, _, HBa.out, K1.out, K2.out, .inl rfl, HN.out, rfl⟩)
theorem cores_any (u v : Ver) (w : World) :
    Calls Tryz.prog 48 #[.agg #[.int .u64 (u.a : Int), .int .u64 (u.b : Int), .int .u64 (u.c : Int)], .agg #[.int .u64 (v.a : Int), .int .u64 (v.b : Int), .int .u64 (v.c : Int)]] w fun e w' => e = .returned (.int .i64 (cmpCore u v)) ∧ Below w.heap.size w w' := dropD (cores_anyD u v w)
end Go.Proofs.YtdbdeadcffpbfaaGreatDoor.Prec
