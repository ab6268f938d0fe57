/-
  Versions and their texts, as plain lists: a right version's text is read as it. No condition.
-/
import Derived.Test.YtolkcblkciafiaaDoorSvBack
namespace Go.Proofs.YtolkcblkciafiaaDoor.Semver
open Num Ident

theorem run_cat : ∀ (d r : List UInt8), AllDig d → (∀ b t, r = b :: t → isDig b = false) → run (d ++ r) = d.length
  | [], r, _, h => by
    cases r with
    | nil => rfl
    | cons b t => rw [List.nil_append, run, h b t rfl]; rfl
  | b :: d, r, hd, h => by
    rw [allDig_cons] at hd
    rw [List.cons_append, run, if_pos hd.1, run_cat d r hd.2 h]; rfl
theorem parse_cat (a d r : List UInt8) (hd : isNum d = true) (hv : val d ≤ maxField) (hr : ∀ b t, r = b :: t → isDig b = false) : parse (a ++ (d ++ r)) (a.length : Int) = (val d, d.length, 0) := by
  have h := (isNum_iff d).1 hd
  have hdrop : (a ++ (d ++ r)).drop a.length = d ++ r := by simp
  have e := parse_at (a ++ (d ++ r)) a.length (by simp) d (by rw [hdrop, run_cat d r (all_of_run h.2.1) hr]; simp)
  rw [e, if_neg (by omega), if_neg (by rw [h.2.2]; simp), if_neg (by omega)]
theorem parse_dec (a r : List UInt8) (x : Nat) (hx : x ≤ maxField) (hr : ∀ b t, r = b :: t → isDig b = false) : parse (a ++ (Lib.decDigits x ++ r)) (a.length : Int) = (x, (Lib.decDigits x).length, 0) := by
  rw [parse_cat a _ r (dec_num x) (by rw [dec_val]; exact hx) hr, dec_val]
theorem point_cat (a r : List UInt8) : point (a ++ 46 :: r) a.length = 0 := by
  refine point_yes (by simp) ?_
  have := byteAt_place a (46 :: r) 0
  rw [Nat.add_zero] at this
  rw [this]; rfl
theorem core2_cat (a r : List UInt8) (x y z : Nat) (hz : z ≤ maxField) (hr : ∀ b t, r = b :: t → isDig b = false) : core2 (a ++ (Lib.decDigits z ++ r)) x y a.length = (0, a.length + (Lib.decDigits z).length, x, y, z) := by
  unfold core2
  rw [parse_dec a r z hz hr]; rfl
theorem stop46 (r : List UInt8) : ∀ b t, (46 : UInt8) :: r = b :: t → isDig b = false := by
  intro b t h
  injection h with h
  rw [← h]; decide
theorem core1_cat (a r : List UInt8) (x y z : Nat) (hy : y ≤ maxField) (hz : z ≤ maxField) (hr : ∀ b t, r = b :: t → isDig b = false) :
    core1 (a ++ (Lib.decDigits y ++ 46 :: (Lib.decDigits z ++ r))) x a.length = (0, a.length + (Lib.decDigits y).length + 1 + (Lib.decDigits z).length, x, y, z) := by
  have e1 : a ++ (Lib.decDigits y ++ 46 :: (Lib.decDigits z ++ r)) = (a ++ Lib.decDigits y) ++ 46 :: (Lib.decDigits z ++ r) := by simp
  have e2 : a ++ (Lib.decDigits y ++ 46 :: (Lib.decDigits z ++ r)) = (a ++ Lib.decDigits y ++ [46]) ++ (Lib.decDigits z ++ r) := by simp
  have h1 := point_cat (a ++ Lib.decDigits y) (Lib.decDigits z ++ r)
  have h2 := core2_cat (a ++ Lib.decDigits y ++ [46]) r x y z hz hr
  rw [← e1, List.length_append] at h1
  rw [← e2] at h2
  simp only [List.length_append, List.length_singleton] at h2
  unfold core1
  rw [parse_dec a _ y hy (stop46 _)]
  simp only [ne_eq, not_true_eq_false, if_false]
  unfold after2
  rw [h1]
  simp only [ne_eq, not_true_eq_false, if_false]
  exact h2
theorem core_cat (r : List UInt8) (x y z : Nat) (hx : x ≤ maxField) (hy : y ≤ maxField) (hz : z ≤ maxField) (hr : ∀ b t, r = b :: t → isDig b = false) :
    core (Lib.decDigits x ++ 46 :: (Lib.decDigits y ++ 46 :: (Lib.decDigits z ++ r))) 0 = (0, (Lib.decDigits x).length + 1 + (Lib.decDigits y).length + 1 + (Lib.decDigits z).length, x, y, z) := by
  have e2 : Lib.decDigits x ++ 46 :: (Lib.decDigits y ++ 46 :: (Lib.decDigits z ++ r)) = (Lib.decDigits x ++ [46]) ++ (Lib.decDigits y ++ 46 :: (Lib.decDigits z ++ r)) := by simp
  have h0 := parse_dec [] (46 :: (Lib.decDigits y ++ 46 :: (Lib.decDigits z ++ r))) x hx (stop46 _)
  have h1 := point_cat (Lib.decDigits x) (Lib.decDigits y ++ 46 :: (Lib.decDigits z ++ r))
  have h2 := core1_cat (Lib.decDigits x ++ [46]) r x y z hy hz hr
  rw [← e2] at h2
  simp only [List.length_append, List.length_singleton] at h2
  rw [List.nil_append, List.length_nil] at h0
  unfold core
  rw [h0]
  simp only [ne_eq, not_true_eq_false, if_false, Nat.zero_add]
  unfold after1
  rw [h1]
  simp only [ne_eq, not_true_eq_false, if_false]
  exact h2

/-- A good row's text, with a byte behind that is none of a row's, or none, is read as the row. -/
theorem go_cat {pre : Bool} (r : List UInt8) (hr : ∀ b t, r = b :: t → isId b = false ∧ b.toNat ≠ 46) : ∀ (xs : List (List UInt8)) (acc : List (List UInt8)) (n : Nat), xs ≠ [] → goodFrom pre xs acc.length = true → go pre (joined xs ++ r) [] acc n = (0, n + (joined xs).length, acc ++ xs)
  | [], _, _, h, _ => absurd rfl h
  | [x], acc, n, _, h => by
    rw [goodFrom, Bool.and_eq_true, Bool.and_eq_true, beq_iff_eq, beq_iff_eq] at h
    rw [joined_one, go_ids x r [] acc n (lead_full.1 h.1.2), List.nil_append]
    cases r with
    | nil => rw [go, shut, if_pos h.1.1]
    | cons b t => rw [go_else (hr b t rfl).1 (hr b t rfl).2, shut, if_pos h.1.1]
  | x :: y :: s, acc, n, _, h => by
    rw [goodFrom, Bool.and_eq_true, Bool.and_eq_true, beq_iff_eq, beq_iff_eq] at h
    have h2 : goodFrom pre (y :: s) (acc ++ [x]).length = true := by rw [List.length_append]; exact h.2
    rw [joined_cons, List.append_assoc, go_ids x _ [] acc n (lead_full.1 h.1.2), List.nil_append, List.cons_append, go_point (by decide) h.1.1, go_cat r hr (y :: s) (acc ++ [x]) _ (by simp) h2]
    simp; omega
theorem row_cat {pre : Bool} (a r : List UInt8) (xs : List (List UInt8)) (hr : ∀ b t, r = b :: t → isId b = false ∧ b.toNat ≠ 46) (h0 : xs ≠ []) (h : goodFrom pre xs 0 = true) : row (a ++ (joined xs ++ r)) (a.length : Int) pre = (0, (joined xs).length, xs) := by
  have hdrop : (a ++ (joined xs ++ r)).drop a.length = joined xs ++ r := by simp
  have h1 : ¬ ((a.length : Int) < 0 ∨ ((a ++ (joined xs ++ r)).length : Int) < (a.length : Int)) := by simp only [List.length_append]; omega
  unfold row
  rw [if_neg h1, Int.toNat_natCast, hdrop]
  have := go_cat (pre := pre) r hr xs [] 0 h0 h
  simpa using this
theorem rowAt_cat (a r : List UInt8) (xs : List (List UInt8)) (m : Nat) (mb : UInt8) (hm : m = mb.toNat) (hr : ∀ b t, r = b :: t → isId b = false ∧ b.toNat ≠ 46 ∧ b ≠ mb) (h : goodFrom (m == 45) xs 0 = true) :
    rowAt (a ++ (rowText mb xs ++ r)) a.length m = (0, a.length + (rowText mb xs).length, xs) := by
  by_cases h0 : xs = []
  · subst h0
    rw [rowText_none rfl, List.nil_append]
    refine rowAt_none ?_
    cases r with
    | nil => left; simp
    | cons b t =>
      right
      have hb := (hr b t rfl).2.2
      have := byteAt_place a (b :: t) 0
      rw [Nat.add_zero] at this
      rw [this, hm]
      intro e
      apply hb
      have e2 : (b.toNat : Int) = (mb.toNat : Int) := e
      exact UInt8.toNat_inj.1 (by omega)
  · have hl : xs.length ≠ 0 := fun e => h0 (List.eq_nil_of_length_eq_zero e)
    rw [rowText_some hl]
    have e1 : a ++ ([mb] ++ joined xs ++ r) = a ++ (mb :: (joined xs ++ r)) := by simp
    have e2 : a ++ ([mb] ++ joined xs ++ r) = (a ++ [mb]) ++ (joined xs ++ r) := by simp
    have hrow := row_cat (pre := (m == 45)) (a ++ [mb]) r xs (fun b t e => ⟨(hr b t e).1, (hr b t e).2.1⟩) h0 h
    rw [← e2, List.length_append, List.length_singleton] at hrow
    have hbyte : byteAt (a ++ ([mb] ++ joined xs ++ r)) a.length = (m : Int) := by
      have := byteAt_place a (mb :: (joined xs ++ r)) 0
      rw [Nat.add_zero] at this
      rw [e1, this, hm]; rfl
    rw [rowAt_some (by simp) hbyte, hrow]
    simp only [List.length_append, List.length_singleton, Nat.add_assoc]

theorem rowText_stop (xs : List (List UInt8)) : ∀ b t, rowText 43 xs = b :: t → isId b = false ∧ b.toNat ≠ 46 ∧ b ≠ 45 := by
  intro b t h
  unfold rowText at h
  split at h
  · cases h
  · injection h with h
    rw [← h]; decide
theorem rows_stop (xs ys : List (List UInt8)) : ∀ b t, rowText 45 xs ++ (rowText 43 ys ++ []) = b :: t → isDig b = false := by
  intro b t h
  by_cases h0 : xs.length = 0
  · rw [rowText_none h0, List.nil_append, List.append_nil] at h
    have h1 := (rowText_stop ys b t h).1
    by_cases h2 : isDig b = true
    · unfold isId at h1; rw [h2] at h1; simp at h1
    · simpa using h2
  · rw [rowText_some h0] at h
    simp only [List.cons_append] at h
    injection h with h
    rw [← h]; decide

/-- A right version's text is read as it. -/
theorem text_read {v : Ver} (h : goodV v = true) : vread (vtext v) = (0, 0, v) := by
  unfold goodV at h
  rw [Bool.and_eq_true, Bool.and_eq_true] at h
  obtain ⟨h1, h2, h3⟩ := h
  have hh := of_decide_eq_true h1
  obtain ⟨L1, hL1⟩ : ∃ L, (Lib.decDigits v.a).length + 1 + (Lib.decDigits v.b).length + 1 + (Lib.decDigits v.c).length = L := ⟨_, rfl⟩
  have c1 := core_cat (rowText 45 v.pre ++ (rowText 43 v.build ++ [])) v.a v.b v.c hh.1 hh.2.1 hh.2.2 (rows_stop v.pre v.build)
  rw [hL1] at c1
  obtain ⟨a, ha⟩ : ∃ a, Lib.decDigits v.a ++ [46] ++ Lib.decDigits v.b ++ [46] ++ Lib.decDigits v.c = a := ⟨_, rfl⟩
  have hal : a.length = L1 := by rw [← ha, ← hL1]; simp; omega
  have e0 : vtext v = a ++ (rowText 45 v.pre ++ (rowText 43 v.build ++ [])) := by unfold vtext; rw [ha]; simp
  have e1 : Lib.decDigits v.a ++ 46 :: (Lib.decDigits v.b ++ 46 :: (Lib.decDigits v.c ++ (rowText 45 v.pre ++ (rowText 43 v.build ++ [])))) = vtext v := by rw [e0, ← ha]; simp
  have r1 := rowAt_cat a (rowText 43 v.build ++ []) v.pre 45 45 rfl (fun b t e => rowText_stop v.build b t (by rw [List.append_nil] at e; exact e)) h2
  have e2 : vtext v = (a ++ rowText 45 v.pre) ++ (rowText 43 v.build ++ []) := by rw [e0]; simp
  have r2 := rowAt_cat (a ++ rowText 45 v.pre) [] v.build 43 43 rfl (fun b t e => by cases e) h3
  rw [e1] at c1
  rw [← e0, hal] at r1
  rw [← e2, List.length_append, hal] at r2
  have hlen : (vtext v).length = L1 + (rowText 45 v.pre).length + (rowText 43 v.build).length := by rw [e2]; simp [hal]; omega
  have hp : vparse (vtext v) 0 = (0, L1 + (rowText 45 v.pre).length + (rowText 43 v.build).length, v) := by
    unfold vparse
    rw [if_neg (by omega), Int.toNat_zero]
    unfold inside
    rw [c1]
    simp only [ne_eq, not_true_eq_false, if_false]
    unfold tail1
    rw [r1]
    simp only [ne_eq, not_true_eq_false, if_false]
    unfold tail2
    rw [r2]
    simp only [ne_eq, not_true_eq_false, if_false]
  unfold vread
  rw [hp]
  simp [hlen]
end Go.Proofs.YtolkcblkciafiaaDoor.Semver
