/-
  A row's identifiers with points between; a good row's text is read as it. Plain facts.
-/
import Derived.Lib.Join
import Derived.Test.YtolkcblkciafiaaDoorIdGoodMath
import Derived.Test.YtolkcblkciafiaaDoorIdMem
namespace Go.Proofs.YtolkcblkciafiaaDoor.Ident
open Go.RowKit Num

/-- The identifiers with points between. -/
def joined (xs : List (List UInt8)) : List UInt8 := Lib.join xs [46]
theorem joinTail_snoc (r : List (List UInt8)) (x : List UInt8) : Lib.joinTail [46] (r ++ [x]) = Lib.joinTail [46] r ++ ([46] ++ x) := by
  simp [Lib.joinTail]
theorem joined_nil : joined [] = [] := rfl
theorem joined_one (x : List UInt8) : joined [x] = x := Lib.join_one x [46]
theorem joined_cons (x y : List UInt8) (r : List (List UInt8)) : joined (x :: y :: r) = x ++ 46 :: joined (y :: r) := by
  unfold joined
  rw [Lib.join_cons, Lib.join_cons]; simp [Lib.joinTail]
theorem joined_snoc (xs : List (List UInt8)) (x : List UInt8) (h : xs ≠ []) : joined (xs ++ [x]) = joined xs ++ [46] ++ x := by
  cases xs with
  | nil => exact absurd rfl h
  | cons a r =>
    unfold joined
    rw [List.cons_append, Lib.join_cons, Lib.join_cons, joinTail_snoc]; simp
theorem joined_le : ∀ (xs : List (List UInt8)), (∀ x ∈ xs, x.length ≤ 300) → (joined xs).length ≤ 301 * xs.length
  | [], _ => by simp [joined_nil]
  | [x], h => by rw [joined_one]; have := h x (by simp); simp; omega
  | x :: y :: r, h => by
    rw [joined_cons]
    have h1 := h x (by simp)
    have h2 := joined_le (y :: r) (fun z hz => h z (by simp [hz]))
    simp only [List.length_append, List.length_cons] at h2 ⊢
    omega
/-- Identifiers' bytes ahead are read one by one. -/
theorem go_ids {pre : Bool} (x t w : List UInt8) (acc : List (List UInt8)) (n : Nat) (h : ∀ b ∈ x, isId b = true) : go pre (x ++ t) w acc n = go pre t (w ++ x) acc (n + x.length) := by
  induction x generalizing w n with
  | nil => simp
  | cons b x ih =>
    rw [List.cons_append, go_id (h b (by simp)), ih _ _ (fun c hc => h c (by simp [hc])), List.append_assoc, List.singleton_append, List.length_cons]
    congr 1; omega
/-- A good row's text, with a byte behind that is none of a row's, is read as the row. -/
theorem go_good {pre : Bool} : ∀ (xs : List (List UInt8)) (acc : List (List UInt8)) (n : Nat), xs ≠ [] → goodFrom pre xs acc.length = true → go pre (joined xs ++ [43]) [] acc n = (0, n + (joined xs).length, acc ++ xs)
  | [], _, _, h, _ => absurd rfl h
  | [x], acc, n, _, h => by
    rw [goodFrom, Bool.and_eq_true, Bool.and_eq_true, beq_iff_eq, beq_iff_eq] at h
    rw [joined_one, go_ids x [43] [] acc n (lead_full.1 h.1.2), List.nil_append, go_else (by decide) (by decide), shut, if_pos h.1.1]
  | x :: y :: r, acc, n, _, h => by
    rw [goodFrom, Bool.and_eq_true, Bool.and_eq_true, beq_iff_eq, beq_iff_eq] at h
    have h2 : goodFrom pre (y :: r) (acc ++ [x]).length = true := by rw [List.length_append]; exact h.2
    rw [joined_cons, List.append_assoc, go_ids x _ [] acc n (lead_full.1 h.1.2), List.nil_append, List.cons_append, go_point (by decide) h.1.1, go_good (y :: r) (acc ++ [x]) _ (by simp) h2]
    simp; omega
theorem row_good {pre : Bool} {xs : List (List UInt8)} (h0 : xs ≠ []) (h : goodFrom pre xs 0 = true) : row (joined xs ++ [43]) 0 pre = (0, (joined xs).length, xs) := by
  unfold row
  rw [if_neg (by simp; omega)]
  have := go_good (pre := pre) xs [] 0 h0 h
  simpa using this
theorem take_texts (xs : List (List UInt8)) (k : Nat) (h : k < xs.length) : xs.take (k + 1) = xs.take k ++ [xs.getD k []] := by
  rw [List.take_succ_eq_append_getElem h]; simp [List.getD, List.getElem?_eq_getElem h]
theorem mk_point (t : List UInt8) : mk t ++ (⟨#[46]⟩ : ByteArray) = mk (t ++ [46]) := by
  have : (mk t ++ (⟨#[46]⟩ : ByteArray)).data.toList = t ++ [46] := by
    rw [ByteArray.data_append, Array.toList_append]; rfl
  rw [← this]; rfl
theorem mk_cat (t x : List UInt8) : mk t ++ mk x = mk (t ++ x) := by
  have : (mk t ++ mk x).data.toList = t ++ x := by
    rw [ByteArray.data_append, Array.toList_append]; rfl
  rw [← this]; rfl
end Go.Proofs.YtolkcblkciafiaaDoor.Ident
