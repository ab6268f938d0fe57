/-
  Identifiers and rows of them, as plain lists of bytes: which bytes they have, what is wrong with one, the row that a text begins with, how two identifiers and two rows stand, and that they stand in an order. No condition.
-/
import Derived.Test.YtolkcblkciafiaaDoorNumIs
import Derived.Lib.TrimByte
namespace Go.Proofs.YtolkcblkciafiaaDoor.Ident
open Num

/-- Is this byte a letter? -/
def isLet (b : UInt8) : Bool := decide ((65 ≤ b.toNat ∧ b.toNat ≤ 90) ∨ (97 ≤ b.toNat ∧ b.toNat ≤ 122))
/-- Is this byte one of an identifier's? -/
def isId (b : UInt8) : Bool := isDig b || isLet b || decide (b.toNat = 45)
/-- How many of an identifier's bytes a text begins with. -/
def lead : List UInt8 → Nat
  | [] => 0
  | b :: r => if isId b then lead r + 1 else 0

theorem isLet_iff (b : UInt8) : isLet b = true ↔ (65 ≤ b.toNat ∧ b.toNat ≤ 90) ∨ (97 ≤ b.toNat ∧ b.toNat ≤ 122) := by simp [isLet]
theorem isId_iff (b : UInt8) : isId b = true ↔ isDig b = true ∨ isLet b = true ∨ b.toNat = 45 := by simp [isId, or_assoc]

theorem lead_le (l : List UInt8) : lead l ≤ l.length := by
  induction l with
  | nil => simp [lead]
  | cons b r ih => simp only [lead, List.length_cons]; split <;> omega

theorem lead_skip (l : List UInt8) (k : Nat) (hk : k ≤ l.length) (h : ∀ j, j < k → isId (l.getD j 0) = true) : lead l = k + lead (l.drop k) := by
  induction k generalizing l with
  | zero => simp
  | succ k ih =>
    cases l with
    | nil => simp at hk
    | cons b r =>
      have h0 : isId b = true := by simpa using h 0 (by omega)
      have := ih r (by simpa using hk) (fun j hj => by simpa using h (j + 1) (by omega))
      simp only [lead, h0, if_true, List.drop_succ_cons]; omega

theorem drop_getD (l : List UInt8) (k : Nat) (h : k < l.length) : l.drop k = l.getD k 0 :: l.drop (k + 1) := by
  rw [List.drop_eq_getElem_cons h]; simp [List.getD, List.getElem?_eq_getElem h]

theorem lead_stop (l : List UInt8) (k : Nat) (hk : k ≤ l.length) (h : ∀ j, j < k → isId (l.getD j 0) = true) (he : k = l.length ∨ isId (l.getD k 0) = false) : lead l = k := by
  rw [lead_skip l k hk h]
  rcases he with he | he
  · subst he; simp [lead]
  · rcases Nat.lt_or_ge k l.length with hlt | hge
    · rw [drop_getD l k hlt, lead, he]; simp
    · rw [List.drop_eq_nil_of_le hge]; simp [lead]

theorem lead_full {l : List UInt8} : lead l = l.length ↔ ∀ b ∈ l, isId b = true := by
  induction l with
  | nil => simp [lead]
  | cons b r ih =>
    rw [lead]
    by_cases hb : isId b = true
    · simp [hb, ← ih]
    · have := lead_le r
      simp [hb]

/-- Digits alone, and at least one. -/
def numeric (l : List UInt8) : Bool := decide (0 < l.length ∧ run l = l.length)
theorem numeric_iff (l : List UInt8) : numeric l = true ↔ 0 < l.length ∧ run l = l.length := by simp [numeric]
theorem numeric_no (l : List UInt8) : numeric l = false ↔ ¬ (0 < l.length ∧ run l = l.length) := by
  rw [← numeric_iff]; cases numeric l <;> simp

/-- What is wrong with the identifier at place i of a row. -/
def fault (s : List UInt8) (i : Nat) (pre : Bool) : Nat :=
  if s.length = 0 then 5 else if 255 < s.length ∨ 16 ≤ i then 4 else if pre = true ∧ numeric s = true ∧ isNum s = false then 3 else 0
theorem fault_le (s : List UInt8) (i : Nat) (pre : Bool) : fault s i pre ≤ 5 := by
  unfold fault; split <;> (try split) <;> (try split) <;> omega
theorem fault_pos {s : List UInt8} {i : Nat} {pre : Bool} (h : fault s i pre = 0) : 0 < s.length ∧ s.length ≤ 255 ∧ i < 16 := by
  unfold fault at h
  split at h
  · omega
  · split at h
    · omega
    · rename_i h1 h2; omega

/-- An end of reading: the error, how many bytes, the identifiers. -/
abbrev Res := Nat × Nat × List (List UInt8)
/-- The end of a row: its last identifier w. -/
def shut (pre : Bool) (w : List UInt8) (acc : List (List UInt8)) (n : Nat) : Res :=
  if fault w acc.length pre = 0 then (0, n, acc ++ [w]) else (fault w acc.length pre, 0, [])
/-- The row that a text begins with, of which w, acc and n bytes have been read. -/
def go (pre : Bool) : List UInt8 → List UInt8 → List (List UInt8) → Nat → Res
  | [], w, acc, n => shut pre w acc n
  | b :: r, w, acc, n =>
    if isId b then go pre r (w ++ [b]) acc (n + 1)
    else if b.toNat = 46 then (if fault w acc.length pre = 0 then go pre r [] (acc ++ [w]) (n + 1) else (fault w acc.length pre, 0, []))
    else shut pre w acc n
/-- What Row answers. -/
def row (l : List UInt8) (p : Int) (pre : Bool) : Res := if p < 0 ∨ (l.length : Int) < p then (1, 0, []) else go pre (l.drop p.toNat) [] [] 0

theorem point_no : isId 46 = false := by decide
theorem go_id {pre : Bool} {b : UInt8} {r w : List UInt8} {acc : List (List UInt8)} {n : Nat} (h : isId b = true) : go pre (b :: r) w acc n = go pre r (w ++ [b]) acc (n + 1) := by
  rw [go, if_pos h]
theorem go_bad {pre : Bool} {b : UInt8} {r w : List UInt8} {acc : List (List UInt8)} {n : Nat} (h : isId b = false) (hf : fault w acc.length pre ≠ 0) : go pre (b :: r) w acc n = (fault w acc.length pre, 0, []) := by
  rw [go, h]
  unfold shut
  simp [hf]
theorem go_point {pre : Bool} {b : UInt8} {r w : List UInt8} {acc : List (List UInt8)} {n : Nat} (hb : b.toNat = 46) (hf : fault w acc.length pre = 0) : go pre (b :: r) w acc n = go pre r [] (acc ++ [w]) (n + 1) := by
  have e : b = 46 := UInt8.toNat_inj.1 hb
  subst e
  rw [go, point_no]
  simp [hf]
theorem go_else {pre : Bool} {b : UInt8} {r w : List UInt8} {acc : List (List UInt8)} {n : Nat} (h : isId b = false) (hb : b.toNat ≠ 46) : go pre (b :: r) w acc n = shut pre w acc n := by
  rw [go, h]; simp [hb]
theorem go_lead (pre : Bool) (l w : List UInt8) (acc : List (List UInt8)) (n : Nat) : go pre l w acc n = go pre (l.drop (lead l)) (w ++ l.take (lead l)) acc (n + lead l) := by
  induction l generalizing w n with
  | nil => simp [lead]
  | cons b r ih =>
    by_cases hb : isId b = true
    · rw [go_id hb, ih, lead, if_pos hb, List.drop_succ_cons, List.take_succ_cons, List.append_assoc, List.singleton_append]
      congr 1
      omega
    · rw [lead, if_neg hb]; simp
/-- Behind an identifier's bytes: what is wrong with it is told whatever follows. -/
theorem go_stop (pre : Bool) (l : List UInt8) (acc : List (List UInt8)) (n : Nat) (hf : fault (l.take (lead l)) acc.length pre ≠ 0) : go pre l [] acc n = (fault (l.take (lead l)) acc.length pre, 0, []) := by
  rw [go_lead, List.nil_append]
  rcases Nat.lt_or_ge (lead l) l.length with h | h
  · rw [drop_getD l _ h]
    refine go_bad ?_ hf
    have h1 := lead_skip l (lead l) (Nat.le_of_lt h) (fun j hj => ?_)
    · rw [drop_getD l _ h, lead] at h1
      split at h1
      · omega
      · rename_i h2; simpa using h2
    · have : ∀ (l : List UInt8) j, j < lead l → isId (l.getD j 0) = true := by
        intro l
        induction l with
        | nil => intro j hj; simp [lead] at hj
        | cons b r ih =>
          intro j hj
          rw [lead] at hj
          split at hj
          · rename_i hb
            cases j with
            | zero => simpa using hb
            | succ j => simpa using ih j (by omega)
          · omega
      exact this l j hj
  · rw [List.drop_eq_nil_of_le h, go, shut, if_neg hf]

/-- Digits without the 0s in front. -/
def numeral (l : List UInt8) : List UInt8 := if (Lib.trimLeftB l 48).length = 0 then [48] else Lib.trimLeftB l 48

theorem trim_val (l : List UInt8) : val (Lib.trimLeftB l 48) = val l := by
  unfold Lib.trimLeftB
  induction l with
  | nil => rfl
  | cons b r ih =>
    rw [List.dropWhile_cons]
    split
    · rename_i hb
      have e : b = 48 := by simpa using hb
      rw [ih, val_cons, e]; simp
    · rfl
theorem trim_dig {l : List UInt8} (h : AllDig l) : AllDig (Lib.trimLeftB l 48) := by
  intro b hb
  exact h b ((List.dropWhile_sublist _).subset hb)
theorem trim_pad (l : List UInt8) : pad (Lib.trimLeftB l 48) = false := by
  rw [pad_no]
  rintro ⟨h1, h2⟩
  unfold Lib.trimLeftB at h1 h2
  induction l with
  | nil => simp at h1
  | cons b r ih =>
    rw [List.dropWhile_cons] at h1 h2
    split at h1
    · rename_i hb
      rw [if_pos hb] at h2
      exact ih h1 h2
    · rename_i hb
      rw [if_neg hb] at h2
      have : b.toNat = (48 : UInt8).toNat := by simpa using h2
      exact hb (by simp [UInt8.toNat_inj.1 this])
theorem numeral_num {l : List UInt8} (h : AllDig l) : isNum (numeral l) = true := by
  unfold numeral
  split
  · decide
  · rename_i h0
    rw [isNum_iff]
    exact ⟨by omega, run_all (trim_dig h), trim_pad l⟩
theorem numeral_val (l : List UInt8) : val (numeral l) = val l := by
  unfold numeral
  split
  · rename_i h0
    have e := List.eq_nil_of_length_eq_zero h0
    have := trim_val l
    rw [e] at this
    rw [← this]; decide
  · exact trim_val l

/-- How two identifiers stand. -/
def cmpId (a b : List UInt8) : Int :=
  if numeric a = true then
    if numeric b = true then (if ordN (val a) (val b) = 0 then ordN a.length b.length else ordN (val a) (val b))
    else -1
  else if numeric b = true then 1 else Lib.compareBytes a b

theorem cmp_bytes_trans : ∀ (a b c : List UInt8), Lib.compareBytes a b ≤ 0 → Lib.compareBytes b c ≤ 0 → Lib.compareBytes a c ≤ 0 := by
  intro a
  induction a with
  | nil => intro b c _ _; cases c <;> simp [Lib.compareBytes]
  | cons x a ih =>
    intro b c h1 h2
    cases b with
    | nil => simp [Lib.compareBytes] at h1
    | cons y b =>
      cases c with
      | nil => simp [Lib.compareBytes] at h2
      | cons z c =>
        unfold Lib.compareBytes at h1 h2 ⊢
        simp only [UInt8.lt_iff_toNat_lt] at h1 h2 ⊢
        by_cases hxy : x.toNat < y.toNat
        · by_cases hyz : y.toNat < z.toNat
          · rw [if_pos (by omega)]; omega
          · by_cases hzy : z.toNat < y.toNat
            · rw [if_neg hyz, if_pos hzy] at h2; omega
            · rw [if_pos (by omega)]; omega
        · by_cases hyx : y.toNat < x.toNat
          · rw [if_neg hxy, if_pos hyx] at h1; omega
          · rw [if_neg hxy, if_neg hyx] at h1
            by_cases hyz : y.toNat < z.toNat
            · rw [if_pos (by omega)]; omega
            · by_cases hzy : z.toNat < y.toNat
              · rw [if_neg hyz, if_pos hzy] at h2; omega
              · rw [if_neg hyz, if_neg hzy] at h2
                rw [if_neg (by omega), if_neg (by omega)]
                exact ih b c h1 h2
theorem cmp_bytes_self (a : List UInt8) : Lib.compareBytes a a = 0 := by
  induction a with
  | nil => rfl
  | cons x a ih => unfold Lib.compareBytes; simp [UInt8.lt_irrefl, ih]

theorem ordN_cases (x y : Nat) : (x < y ∧ ordN x y = -1) ∨ (x = y ∧ ordN x y = 0) ∨ (y < x ∧ ordN x y = 1) := by
  rcases Nat.lt_trichotomy x y with h | h | h
  · exact .inl ⟨h, ordN_lt h⟩
  · exact .inr (.inl ⟨h, ordN_eq h⟩)
  · exact .inr (.inr ⟨h, ordN_gt h⟩)

theorem cmpId_self (a : List UInt8) : cmpId a a = 0 := by
  unfold cmpId
  split
  · rw [ordN_eq rfl, if_pos rfl, ordN_eq rfl]
  · exact cmp_bytes_self a

theorem cmpId_trans (a b c : List UInt8) (h1 : cmpId a b ≤ 0) (h2 : cmpId b c ≤ 0) : cmpId a c ≤ 0 := by
  unfold cmpId at h1 h2 ⊢
  by_cases ha : numeric a = true
  · by_cases hc : numeric c = true
    · by_cases hb : numeric b = true
      · rw [if_pos ha, if_pos hb] at h1
        rw [if_pos hb, if_pos hc] at h2
        rw [if_pos ha, if_pos hc]
        rcases ordN_cases (val a) (val b) with ⟨e1, e2⟩ | ⟨e1, e2⟩ | ⟨e1, e2⟩ <;>
        rcases ordN_cases (val b) (val c) with ⟨g1, g2⟩ | ⟨g1, g2⟩ | ⟨g1, g2⟩ <;>
        rcases ordN_cases (val a) (val c) with ⟨k1, k2⟩ | ⟨k1, k2⟩ | ⟨k1, k2⟩ <;>
        rcases ordN_cases a.length b.length with ⟨e3, e4⟩ | ⟨e3, e4⟩ | ⟨e3, e4⟩ <;>
        rcases ordN_cases b.length c.length with ⟨g3, g4⟩ | ⟨g3, g4⟩ | ⟨g3, g4⟩ <;>
        rcases ordN_cases a.length c.length with ⟨k3, k4⟩ | ⟨k3, k4⟩ | ⟨k3, k4⟩ <;>
        simp [e2, e4] at h1 <;> simp [g2, g4] at h2 <;> simp [k2, k4] <;> omega
      · rw [if_neg hb, if_pos hc] at h2; omega
    · rw [if_pos ha, if_neg hc]; omega
  · by_cases hb : numeric b = true
    · rw [if_neg ha, if_pos hb] at h1; omega
    · rw [if_neg ha, if_neg hb] at h1
      by_cases hc : numeric c = true
      · rw [if_neg hb, if_pos hc] at h2; omega
      · rw [if_neg hb, if_neg hc] at h2
        rw [if_neg ha, if_neg hc]
        exact cmp_bytes_trans a b c h1 h2

/-- How two rows stand. -/
def cmpRows : List (List UInt8) → List (List UInt8) → Int
  | a :: r, b :: s => if cmpId a b = 0 then cmpRows r s else cmpId a b
  | r, s => ordN r.length s.length
theorem cmpRows_nil (s : List (List UInt8)) : cmpRows [] s = ordN 0 s.length := by unfold cmpRows; rfl
theorem cmpRows_nil' (r : List (List UInt8)) : cmpRows r [] = ordN r.length 0 := by cases r <;> simp [cmpRows]
theorem cmpRows_same {a b : List UInt8} {r s : List (List UInt8)} (h : cmpId a b = 0) : cmpRows (a :: r) (b :: s) = cmpRows r s := by rw [cmpRows, if_pos h]
theorem cmpRows_diff {a b : List UInt8} {r s : List (List UInt8)} (h : cmpId a b ≠ 0) : cmpRows (a :: r) (b :: s) = cmpId a b := by rw [cmpRows, if_neg h]
theorem cmpRows_prefix (l x y : List (List UInt8)) : cmpRows (l ++ x) (l ++ y) = cmpRows x y := by
  induction l with
  | nil => rfl
  | cons a l ih => rw [List.cons_append, List.cons_append, cmpRows_same (cmpId_self a), ih]
theorem cmpRows_longer (l : List (List UInt8)) (a : List UInt8) : cmpRows l (l ++ [a]) = -1 := by
  have := cmpRows_prefix l [] [a]
  rw [List.append_nil] at this
  rw [this, cmpRows_nil]; rfl
theorem cmpRows_shorter (l : List (List UInt8)) (a : List UInt8) : cmpRows (l ++ [a]) l = 1 := by
  have := cmpRows_prefix l [a] []
  rw [List.append_nil] at this
  rw [this, cmpRows_nil']; rfl
theorem cmpRows_last (l : List (List UInt8)) (a b : List UInt8) : cmpRows (l ++ [a]) (l ++ [b]) = cmpId a b := by
  rw [cmpRows_prefix]
  by_cases h : cmpId a b = 0
  · rw [cmpRows_same h, cmpRows_nil, h]; rfl
  · rw [cmpRows_diff h]

/-! How long a row is. -/
theorem shut_len {pre : Bool} {w : List UInt8} {acc : List (List UInt8)} {n : Nat} : (shut pre w acc n).2.2.length ≤ 17 := by
  unfold shut
  split
  · rename_i h
    have := (fault_pos h).2.2
    simp; omega
  · simp
theorem go_len (pre : Bool) (l w : List UInt8) (acc : List (List UInt8)) (n : Nat) : (go pre l w acc n).2.2.length ≤ 17 := by
  induction l generalizing w acc n with
  | nil => rw [go]; exact shut_len
  | cons b r ih =>
    rw [go]
    split
    · exact ih _ _ _
    · split
      · split
        · exact ih _ _ _
        · simp
      · exact shut_len
theorem row_len (l : List UInt8) (p : Int) (pre : Bool) : (row l p pre).2.2.length ≤ 17 := by
  unfold row
  split
  · simp
  · exact go_len _ _ _ _ _
theorem shut_end {pre : Bool} {w : List UInt8} {acc : List (List UInt8)} {n : Nat} : (shut pre w acc n).2.1 ≤ n := by
  unfold shut; split <;> simp
theorem go_end_le (pre : Bool) (l w : List UInt8) (acc : List (List UInt8)) (n : Nat) : (go pre l w acc n).2.1 ≤ n + l.length := by
  induction l generalizing w acc n with
  | nil => rw [go]; exact Nat.le_trans shut_end (by simp)
  | cons b r ih =>
    rw [go, List.length_cons]
    split
    · exact Nat.le_trans (ih _ _ _) (by omega)
    · split
      · split
        · exact Nat.le_trans (ih _ _ _) (by omega)
        · simp
      · exact Nat.le_trans shut_end (by omega)
theorem row_end (l : List UInt8) (p : Nat) (pre : Bool) (hp : p ≤ l.length) : p + (row l p pre).2.1 ≤ l.length := by
  unfold row
  rw [if_neg (by omega), Int.toNat_natCast]
  have := go_end_le pre (l.drop p) [] [] 0
  rw [List.length_drop] at this; omega
theorem shut_bad {pre : Bool} {w : List UInt8} {acc : List (List UInt8)} {n : Nat} (h : (shut pre w acc n).1 ≠ 0) : (shut pre w acc n).2 = (0, []) := by
  unfold shut at h ⊢; split
  · rename_i h1; rw [if_pos h1] at h; exact absurd rfl h
  · rfl
theorem go_bad_end (pre : Bool) (l w : List UInt8) (acc : List (List UInt8)) (n : Nat) (h : (go pre l w acc n).1 ≠ 0) : (go pre l w acc n).2 = (0, []) := by
  induction l generalizing w acc n with
  | nil => rw [go] at h ⊢; exact shut_bad h
  | cons b r ih =>
    rw [go] at h ⊢
    split
    · rename_i h1; rw [if_pos h1] at h; exact ih _ _ _ h
    · rename_i h1
      rw [if_neg h1] at h
      split
      · rename_i h2
        rw [if_pos h2] at h
        split
        · rename_i h3; rw [if_pos h3] at h; exact ih _ _ _ h
        · rfl
      · rename_i h2; rw [if_neg h2] at h; exact shut_bad h
/-- Beside an error there is no row. -/
theorem row_bad (l : List UInt8) (p : Int) (pre : Bool) (h : (row l p pre).1 ≠ 0) : (row l p pre).2 = (0, []) := by
  unfold row at h ⊢
  split
  · rfl
  · rename_i h1; rw [if_neg h1] at h; exact go_bad_end _ _ _ _ _ h
theorem row_place (a b : List UInt8) (p : Nat) (pre : Bool) (hp : p ≤ b.length) : row (a ++ b) ((a.length + p : Nat) : Int) pre = row b p pre := by
  have h1 : ¬ (((a.length + p : Nat) : Int) < 0 ∨ ((a ++ b).length : Int) < ((a.length + p : Nat) : Int)) := by simp only [List.length_append]; omega
  have h2 : ¬ ((p : Int) < 0 ∨ (b.length : Int) < (p : Int)) := by omega
  have h3 : (a ++ b).drop (a.length + p) = b.drop p := by
    rw [List.drop_append, List.drop_eq_nil_of_le (by omega), show a.length + p - a.length = p by omega]; rfl
  unfold row
  rw [if_neg h1, if_neg h2, Int.toNat_natCast, Int.toNat_natCast, h3]

/-- Few and short texts. -/
def shortB (xs : List (List UInt8)) : Bool := decide (xs.length ≤ 40 ∧ ∀ x ∈ xs, x.length ≤ 300)
theorem shortB_iff (xs : List (List UInt8)) : shortB xs = true ↔ xs.length ≤ 40 ∧ ∀ x ∈ xs, x.length ≤ 300 := by simp [shortB]
theorem shortB_no (xs : List (List UInt8)) : shortB xs = false ↔ ¬ (xs.length ≤ 40 ∧ ∀ x ∈ xs, x.length ≤ 300) := by
  rw [← shortB_iff]; cases shortB xs <;> simp
end Go.Proofs.YtolkcblkciafiaaDoor.Ident
