/-
  Digits of one length stand, byte by byte, as their numbers do; which digits are too large to be held. Plain lists and numbers; no condition.
-/
import Derived.Test.YtolkcblkciafiaaDoorNumMath
import Derived.Lib.Strings
namespace Go.Proofs.YtolkcblkciafiaaDoor.Num

theorem less_val : ∀ (x y : List UInt8), AllDig x → AllDig y → x.length = y.length → (Op.bytesLess x y = true ↔ val x < val y) := by
  intro x
  induction x with
  | nil =>
    intro y _ _ h
    have : y = [] := List.eq_nil_of_length_eq_zero (by simpa using h.symm)
    subst this
    simp [Op.bytesLess]
  | cons a x ih =>
    intro y hx hy h
    cases y with
    | nil => simp at h
    | cons b y =>
      rw [allDig_cons] at hx hy
      have hl : x.length = y.length := by simpa using h
      have h1 := ih y hx.2 hy.2 hl
      have ha := (isDig_iff a).1 hx.1
      have hb := (isDig_iff b).1 hy.1
      have vx := val_lt hx.2
      have vy := val_lt hy.2
      rw [val_cons, val_cons, ← hl]
      rw [← hl] at vy
      unfold Op.bytesLess
      rw [Bool.or_eq_true, Bool.and_eq_true, h1, decide_eq_true_eq, beq_iff_eq, UInt8.lt_iff_toNat_lt]
      rcases Nat.lt_trichotomy a.toNat b.toNat with hab | hab | hab
      · have h5 : (a.toNat - 48 + 1) * 10 ^ x.length ≤ (b.toNat - 48) * 10 ^ x.length := Nat.mul_le_mul_right _ (by omega)
        rw [Nat.add_mul] at h5
        exact ⟨fun _ => by omega, fun _ => .inl hab⟩
      · have e : a = b := UInt8.toNat_inj.1 hab
        subst e
        exact ⟨fun hh => by rcases hh with hh | hh <;> omega, fun hh => .inr ⟨rfl, by omega⟩⟩
      · have h5 : (b.toNat - 48 + 1) * 10 ^ x.length ≤ (a.toNat - 48) * 10 ^ x.length := Nat.mul_le_mul_right _ (by omega)
        rw [Nat.add_mul] at h5
        refine ⟨fun hh => ?_, fun hh => by omega⟩
        rcases hh with hh | ⟨rfl, _⟩ <;> omega

theorem val_inj : ∀ (x y : List UInt8), AllDig x → AllDig y → x.length = y.length → val x = val y → x = y := by
  intro x
  induction x with
  | nil => intro y _ _ h _; exact (List.eq_nil_of_length_eq_zero (by simpa using h.symm)).symm
  | cons a x ih =>
    intro y hx hy h hv
    cases y with
    | nil => simp at h
    | cons b y =>
      rw [allDig_cons] at hx hy
      have hl : x.length = y.length := by simpa using h
      have ha := (isDig_iff a).1 hx.1
      have hb := (isDig_iff b).1 hy.1
      have vx := val_lt hx.2
      have vy := val_lt hy.2
      rw [val_cons, val_cons, ← hl] at hv
      rw [← hl] at vy
      rcases Nat.lt_trichotomy a.toNat b.toNat with hab | hab | hab
      · have h5 : (a.toNat - 48 + 1) * 10 ^ x.length ≤ (b.toNat - 48) * 10 ^ x.length := Nat.mul_le_mul_right _ (by omega)
        rw [Nat.add_mul] at h5; omega
      · have e : a = b := UInt8.toNat_inj.1 hab
        subst e
        rw [ih y hx.2 hy.2 hl (by omega)]
      · have h5 : (b.toNat - 48 + 1) * 10 ^ x.length ≤ (a.toNat - 48) * 10 ^ x.length := Nat.mul_le_mul_right _ (by omega)
        rw [Nat.add_mul] at h5; omega

/-- The digits of the greatest number that is held. -/
def maxDigits : List UInt8 := [57, 50, 50, 51, 51, 55, 50, 48, 51, 54, 56, 53, 52, 55, 55, 53, 56, 48, 55]
theorem maxDigits_all : AllDig maxDigits := by unfold AllDig maxDigits; decide
theorem maxDigits_val : val maxDigits = maxField := by decide +kernel
theorem maxDigits_length : maxDigits.length = 19 := rfl

/-- A numeral of many digits is great. -/
theorem many {d : List UInt8} (hd : AllDig d) (hp : pad d = false) (h : 19 < d.length) : maxField < val d := by
  cases d with
  | nil => simp at h
  | cons b r =>
    rw [pad_no] at hp
    have hb := (isDig_iff b).1 (allDig_cons.1 hd).1
    have h48 : b.toNat ≠ 48 := fun e => hp ⟨by omega, by simpa using e⟩
    have h1 := le_val (b := b) (r := r) (by omega)
    have h2 : 10 ^ 19 ≤ 10 ^ r.length := Nat.pow_le_pow_right (by omega) (by simp at h; omega)
    have h3 : maxField < 10 ^ 19 := by decide +kernel
    omega
theorem few {d : List UInt8} (hd : AllDig d) (h : d.length < 19) : val d ≤ maxField := by
  have h1 := val_lt hd
  have h2 : 10 ^ d.length ≤ 10 ^ 18 := Nat.pow_le_pow_right (by omega) (by omega)
  have h3 : 10 ^ 18 ≤ maxField := by decide +kernel
  omega
theorem just {d : List UInt8} (hd : AllDig d) (h : d.length = 19) : ((!(Op.bytesLess d maxDigits || d == maxDigits)) = true ↔ maxField < val d) := by
  have h1 := less_val d maxDigits hd maxDigits_all h
  rw [maxDigits_val] at h1
  have h2 : (d == maxDigits) = true ↔ val d = maxField := by
    rw [beq_iff_eq]
    exact ⟨fun e => by rw [e, maxDigits_val], fun e => val_inj d maxDigits hd maxDigits_all h (by rw [maxDigits_val]; exact e)⟩
  rw [Bool.not_eq_true', Bool.or_eq_false_iff, ← Bool.not_eq_true, ← Bool.not_eq_true, h1, h2]
  omega
end Go.Proofs.YtolkcblkciafiaaDoor.Num
