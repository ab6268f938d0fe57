/-
  What the digits of a text are worth: how many digits a text begins with, the number of digits, and that digits of one length stand as their numbers do. Plain lists and numbers; no condition.
-/
import Derived.WalkKit
namespace Go.Proofs.Ytpgfolfhfhfdhaa.Num

/-- Is this byte a digit? -/
def isDig (b : UInt8) : Bool := decide (48 ≤ b.toNat ∧ b.toNat ≤ 57)
/-- How many digits a text begins with. -/
def run : List UInt8 → Nat
  | [] => 0
  | b :: r => if isDig b then run r + 1 else 0
/-- The number that a text's digits carry on from v. -/
def valFrom (v : Nat) (l : List UInt8) : Nat := l.foldl (fun v b => 10 * v + (b.toNat - 48)) v
theorem valFrom_nil (v : Nat) : valFrom v [] = v := rfl
theorem valFrom_cons (v : Nat) (b : UInt8) (r : List UInt8) : valFrom v (b :: r) = valFrom (10 * v + (b.toNat - 48)) r := by
  unfold valFrom; rw [List.foldl_cons]
/-- The number of digits. -/
def val (l : List UInt8) : Nat := valFrom 0 l
/-- The greatest number that is held. -/
def maxField : Nat := 9223372036854775807

theorem isDig_iff (b : UInt8) : isDig b = true ↔ 48 ≤ b.toNat ∧ b.toNat ≤ 57 := by simp [isDig]
theorem isDig_no (b : UInt8) : isDig b = false ↔ ¬ (48 ≤ b.toNat ∧ b.toNat ≤ 57) := by
  rw [← isDig_iff]; cases isDig b <;> simp

theorem run_le (l : List UInt8) : run l ≤ l.length := by
  induction l with
  | nil => simp [run]
  | cons b r ih => simp only [run, List.length_cons]; split <;> omega

/-- Digits ahead count one by one. -/
theorem run_skip (l : List UInt8) (k : Nat) (hk : k ≤ l.length) (h : ∀ j, j < k → isDig (l.getD j 0) = true) : run l = k + run (l.drop k) := by
  induction k generalizing l with
  | zero => simp
  | succ k ih =>
    cases l with
    | nil => simp at hk
    | cons b r =>
      have h0 : isDig b = true := by simpa using h 0 (by omega)
      have := ih r (by simpa using hk) (fun j hj => by simpa using h (j + 1) (by omega))
      simp only [run, h0, if_true, List.drop_succ_cons]; omega

/-- Where the digits end. -/
theorem run_stop (l : List UInt8) (k : Nat) (hk : k ≤ l.length) (h : ∀ j, j < k → isDig (l.getD j 0) = true) (he : k = l.length ∨ isDig (l.getD k 0) = false) : run l = k := by
  rw [run_skip l k hk h]
  rcases he with he | he
  · subst he; simp [run]
  · rcases Nat.lt_or_ge k l.length with hlt | hge
    · have e : l.drop k = l.getD k 0 :: l.drop (k + 1) := by
        rw [List.drop_eq_getElem_cons hlt]; simp [List.getD, List.getElem?_eq_getElem hlt]
      rw [e, run, he]; simp
    · rw [List.drop_eq_nil_of_le hge]; simp [run]

theorem run_dig (l : List UInt8) : ∀ j, j < run l → isDig (l.getD j 0) = true := by
  induction l with
  | nil => intro j hj; simp [run] at hj
  | cons b r ih =>
    intro j hj
    rw [run] at hj
    split at hj
    · rename_i hb
      cases j with
      | zero => simpa using hb
      | succ j => simpa using ih j (by omega)
    · omega

def AllDig (l : List UInt8) : Prop := ∀ b ∈ l, isDig b = true

theorem allDig_cons {b : UInt8} {r : List UInt8} : AllDig (b :: r) ↔ isDig b = true ∧ AllDig r := by simp [AllDig]
theorem allDig_take_run (l : List UInt8) : AllDig (l.take (run l)) := by
  induction l with
  | nil => simp [AllDig]
  | cons b r ih =>
    rw [run]
    split
    · rename_i hb; rw [List.take_succ_cons]; exact allDig_cons.2 ⟨hb, ih⟩
    · simp [AllDig]
theorem run_all {l : List UInt8} (h : AllDig l) : run l = l.length := by
  induction l with
  | nil => rfl
  | cons b r ih => rw [allDig_cons] at h; simp [run, h.1, ih h.2]
theorem all_of_run {l : List UInt8} (h : run l = l.length) : AllDig l := by
  have := allDig_take_run l; rwa [h, List.take_length] at this
theorem allDig_getD {l : List UInt8} (h : AllDig l) {j : Nat} (hj : j < l.length) : isDig (l.getD j 0) = true := by
  have e : l.getD j 0 = l[j] := by simp [List.getD, List.getElem?_eq_getElem hj]
  rw [e]; exact h _ (List.getElem_mem hj)

theorem valFrom_append (v : Nat) (l r : List UInt8) : valFrom v (l ++ r) = valFrom (valFrom v l) r := by
  simp [valFrom]
theorem val_snoc (l : List UInt8) (b : UInt8) : val (l ++ [b]) = 10 * val l + (b.toNat - 48) := by
  rw [val, valFrom_append]; rfl
theorem take_snoc (l : List UInt8) (k : Nat) (h : k < l.length) : l.take (k + 1) = l.take k ++ [l.getD k 0] := by
  rw [List.take_succ_eq_append_getElem h]; simp [List.getD, List.getElem?_eq_getElem h]
theorem le_valFrom (v : Nat) (l : List UInt8) : v ≤ valFrom v l := by
  induction l generalizing v with
  | nil => exact Nat.le_refl _
  | cons b r ih => rw [valFrom_cons]; exact Nat.le_trans (by omega) (ih _)
/-- A beginning's number is at most the whole one's. -/
theorem val_take_le (l : List UInt8) (k : Nat) : val (l.take k) ≤ val l := by
  have e : val l = valFrom (val (l.take k)) (l.drop k) := by
    rw [val, val, ← valFrom_append, List.take_append_drop]
  rw [e]; exact le_valFrom _ _

theorem valFrom_eq (v : Nat) (l : List UInt8) : valFrom v l = v * 10 ^ l.length + val l := by
  induction l generalizing v with
  | nil => simp [valFrom_nil, val]
  | cons b r ih =>
    have e1 : val (b :: r) = (b.toNat - 48) * 10 ^ r.length + val r := by
      rw [val, valFrom_cons, ih]; simp
    rw [valFrom_cons]
    have e2 : 10 * v * 10 ^ r.length = v * (10 ^ r.length * 10) := by rw [Nat.mul_comm 10 v, Nat.mul_assoc, Nat.mul_comm 10]
    rw [ih, e1, List.length_cons, Nat.pow_succ, Nat.add_mul, e2]
    omega
theorem val_cons (b : UInt8) (r : List UInt8) : val (b :: r) = (b.toNat - 48) * 10 ^ r.length + val r := by
  rw [val, valFrom_cons, valFrom_eq]; simp
theorem val_lt {l : List UInt8} (h : AllDig l) : val l < 10 ^ l.length := by
  induction l with
  | nil => simp [val, valFrom_nil]
  | cons b r ih =>
    rw [allDig_cons, isDig_iff] at h
    have h2 := ih h.2
    rw [val_cons, List.length_cons, Nat.pow_succ]
    have h3 : b.toNat - 48 ≤ 9 := by omega
    have h4 : (b.toNat - 48) * 10 ^ r.length ≤ 9 * 10 ^ r.length := Nat.mul_le_mul_right _ h3
    omega
/-- A first digit that isn't 0 makes a number of just so many digits. -/
theorem le_val {b : UInt8} {r : List UInt8} (h : 49 ≤ b.toNat) : 10 ^ r.length ≤ val (b :: r) := by
  rw [val_cons]
  have h4 : 1 * 10 ^ r.length ≤ (b.toNat - 48) * 10 ^ r.length := Nat.mul_le_mul_right _ (by omega)
  omega

/-- Digits that begin with a 0 that isn't alone. -/
def pad (l : List UInt8) : Bool := decide (1 < l.length ∧ (l.getD 0 0).toNat = 48)
theorem pad_iff (l : List UInt8) : pad l = true ↔ 1 < l.length ∧ (l.getD 0 0).toNat = 48 := by simp [pad]
theorem pad_no (l : List UInt8) : pad l = false ↔ ¬ (1 < l.length ∧ (l.getD 0 0).toNat = 48) := by
  rw [← pad_iff]; cases pad l <;> simp

/-- What Parse answers: the number, how many digits, the error's number. -/
def parse (l : List UInt8) (p : Int) : Nat × Nat × Nat :=
  if p < 0 ∨ (l.length : Int) < p then (0, 0, 1)
  else
    let r := l.drop p.toNat
    let d := r.take (run r)
    if d.length = 0 then (0, 0, 2)
    else if pad d = true then (0, 0, 3)
    else if maxField < val d then (0, 0, 4)
    else (val d, d.length, 0)

/-- What stands ahead of a place changes nothing. -/
theorem parse_place (a b : List UInt8) : parse (a ++ b) a.length = parse b 0 := by
  have h1 : ¬ ((a.length : Int) < 0 ∨ ((a ++ b).length : Int) < (a.length : Int)) := by simp only [List.length_append]; omega
  have h2 : ¬ ((0 : Int) < 0 ∨ (b.length : Int) < 0) := by omega
  have h3 : (a ++ b).drop (a.length : Int).toNat = b := by simp
  unfold parse
  rw [if_neg h1, if_neg h2, h3]; rfl
/-- What stands ahead of a place changes nothing, at any place behind it. -/
theorem parse_place_at (a b : List UInt8) (p : Nat) (hp : p ≤ b.length) : parse (a ++ b) ((a.length + p : Nat) : Int) = parse b p := by
  have h3 : (a ++ b).drop (a.length + p) = b.drop p := by
    rw [List.drop_append, List.drop_eq_nil_of_le (by omega), show a.length + p - a.length = p by omega]; rfl
  have h1 : ¬ (((a.length + p : Nat) : Int) < 0 ∨ ((a ++ b).length : Int) < ((a.length + p : Nat) : Int)) := by simp only [List.length_append]; omega
  have h2 : ¬ ((p : Int) < 0 ∨ (b.length : Int) < (p : Int)) := by omega
  unfold parse
  rw [if_neg h1, if_neg h2, Int.toNat_natCast, Int.toNat_natCast, h3]
theorem parse_end (l : List UInt8) (p : Nat) (hp : p ≤ l.length) : p + (parse l p).2.1 ≤ l.length := by
  have h1 : ((l.drop p).take (run (l.drop p))).length ≤ l.length - p := by
    rw [List.length_take, List.length_drop]; omega
  unfold parse
  rw [if_neg (by omega), Int.toNat_natCast]
  simp only
  split
  · simpa using hp
  · split
    · simpa using hp
    · split
      · simpa using hp
      · simp only; omega
theorem parse_le (l : List UInt8) (p : Int) : (parse l p).1 ≤ 9223372036854775807 := by
  unfold parse
  split
  · omega
  · simp only
    split
    · omega
    · split
      · omega
      · split
        · omega
        · rename_i h; unfold maxField at h; simp only; omega
theorem parse_bad (l : List UInt8) (p : Int) (h : (parse l p).2.2 ≠ 0) : (parse l p).1 = 0 ∧ (parse l p).2.1 = 0 := by
  unfold parse at h ⊢
  split
  · exact ⟨rfl, rfl⟩
  · rename_i h0
    rw [if_neg h0] at h
    simp only at h ⊢
    split
    · exact ⟨rfl, rfl⟩
    · rename_i h1
      rw [if_neg h1] at h
      split
      · exact ⟨rfl, rfl⟩
      · rename_i h2
        rw [if_neg h2] at h
        split
        · exact ⟨rfl, rfl⟩
        · rename_i h3
          rw [if_neg h3] at h
          exact absurd rfl h
end Go.Proofs.Ytpgfolfhfhfdhaa.Num
