/-
  Which rows of texts are good. Plain facts.
-/
import Derived.Test.YtolkcblkciafiaaDoorIdMath
namespace Go.Proofs.YtolkcblkciafiaaDoor.Ident
open Go.RowKit Num

/-- Is each text, from place i on, an identifier that may stand there? -/
def goodFrom (pre : Bool) : List (List UInt8) → Nat → Bool
  | [], _ => true
  | x :: r, i => fault x i pre == 0 && lead x == x.length && goodFrom pre r (i + 1)
theorem goodFrom_yes {pre : Bool} {x : List UInt8} {r : List (List UInt8)} {i : Nat} (h1 : fault x i pre = 0) (h2 : lead x = x.length) : goodFrom pre (x :: r) i = goodFrom pre r (i + 1) := by
  rw [goodFrom]; simp [h1, h2]
theorem goodFrom_no {pre : Bool} {x : List UInt8} {r : List (List UInt8)} {i : Nat} (h : fault x i pre ≠ 0 ∨ lead x ≠ x.length) : goodFrom pre (x :: r) i = false := by
  rw [goodFrom]
  rcases h with h | h
  · rw [beq_eq_false_iff_ne.2 h]; rfl
  · rw [beq_eq_false_iff_ne.2 h]; simp
theorem goodFrom_step {pre : Bool} {xs : List (List UInt8)} {k : Nat} (hk : k < xs.length) (h1 : fault (xs.getD k []) k pre = 0) (h2 : lead (xs.getD k []) = (xs.getD k []).length) : goodFrom pre (xs.drop k) k = goodFrom pre (xs.drop (k + 1)) (k + 1) := by
  have e : xs.drop k = xs.getD k [] :: xs.drop (k + 1) := by
    rw [List.drop_eq_getElem_cons hk]; simp [List.getD, List.getElem?_eq_getElem hk]
  rw [e]; exact goodFrom_yes h1 h2
theorem goodFrom_stop {pre : Bool} {xs : List (List UInt8)} {k : Nat} (hk : k < xs.length) (h : fault (xs.getD k []) k pre ≠ 0 ∨ lead (xs.getD k []) ≠ (xs.getD k []).length) : goodFrom pre (xs.drop k) k = false := by
  have e : xs.drop k = xs.getD k [] :: xs.drop (k + 1) := by
    rw [List.drop_eq_getElem_cons hk]; simp [List.getD, List.getElem?_eq_getElem hk]
  rw [e]; exact goodFrom_no h
end Go.Proofs.YtolkcblkciafiaaDoor.Ident
