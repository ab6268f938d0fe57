/-
  Steps of a region that draws its order, told in few words: an operation is read off the list by its number. Conditions: as each states.
-/
import Derived.Deep.QuietTactic
import Derived.Deep.RegionHeld3
import Derived.OrdersHeld
import Derived.ProofKit
import Derived.Test.YtpgfolfhfhfdhaaProg
namespace Go.Proofs.Ytpgfolfhfhfdhaa
open Go.RowKit
/-- The i-th of some operations. -/
def nth : List Oper → Nat → Option Oper
  | [], _ => none
  | o :: _, 0 => some o
  | _ :: l, i + 1 => nth l i
theorem nth_get : ∀ (l : List Oper) (i : Nat), nth l i = l[i]?
  | [], _ => by simp [nth]
  | o :: l, 0 => by simp [nth]
  | o :: l, i + 1 => by simp [nth, nth_get l i]
theorem nth_ops {ops : Array Oper} {i : Nat} {o : Oper} (h : nth ops.toList i = some o) : ops[i]? = some o := by
  rw [nth_get, Array.getElem?_toList] at h; exact h
theorem p1 {α : Type} (l : List α) (i : Nat) (x : α) : l.toArray.setIfInBounds i x = (l.set i x).toArray := by simp
theorem p2 {α : Type} (y : α) (l : List α) (x : α) : (y :: l).set 0 x = x :: l := List.set_cons_zero
theorem p3 {α : Type} (y : α) (l : List α) (i : Nat) (x : α) : (y :: l).set (i + 1) x = y :: l.set i x := List.set_cons_succ
section
variable {P : Program} {ops : Array Oper} {Q : Exit → Act → World → Prop} {S : World → Prop} {md : Region.Mode} {fuel : Nat} {listed : Array Bool} {a a' : Act} {w : World} {oi : Oper}
/-- Take number i first. -/
theorem tk (i : Nat) (hi : nth ops.toList i = some oi) (v : Value) (h : wpAnyH P md ops Q S fuel (listed.setIfInBounds i true) a' w)
    (hv : ∀ w', S w' → (execOp a.eval oi).run P w' = .ok (.value v) w' := by intro w' hS'; go_simp)
    (hw : Region.wanted oi (yielded ops a.tmps) = true := by rfl)
    (ha : a.put oi.dst v = a' := by simp only [Act.put, p1, p2, p3]; exact rfl)
    (hs : Region.noSelect ops = true := by kernel_rfl) (hf : Region.free md ops listed i = true := by kernel_rfl) (hr : (Region.ready md ops listed).contains i = true := by kernel_rfl)
    (hQ : ∀ c a w, Q (.panic c) (a.put oi.dst v) w → Q (.panic c) a w := by exact fun _ _ _ h => h) (hS : S w := by assumption) : wpAnyH P md ops Q S (fuel + 1) listed a w :=
  wpAnyH_take (nth_ops hi) hs hf hr hQ (.inl ⟨hw, hv⟩) hS (ha ▸ h)
/-- Number i isn't wanted. -/
theorem sk (i : Nat) (hi : nth ops.toList i = some oi) (h : wpAnyH P md ops Q S fuel (listed.setIfInBounds i true) a' w)
    (hw : Region.wanted oi (yielded ops a.tmps) = false := by rfl)
    (ha : a.put oi.dst undef = a' := by simp only [Act.put, p1, p2, p3]; exact rfl)
    (hs : Region.noSelect ops = true := by kernel_rfl) (hf : Region.free md ops listed i = true := by kernel_rfl) (hr : (Region.ready md ops listed).contains i = true := by kernel_rfl)
    (hQ : ∀ c a w, Q (.panic c) (a.put oi.dst undef) w → Q (.panic c) a w := by exact fun _ _ _ h => h) (hS : S w := by assumption) : wpAnyH P md ops Q S (fuel + 1) listed a w :=
  wpAnyH_take (nth_ops hi) hs hf hr hQ (.inr ⟨hw, rfl⟩) hS (ha ▸ h)
/-- Number i is carried out: it alone may come up. -/
theorem cl (i : Nat) (hi : nth ops.toList i = some oi)
    (h : ∀ K : Act → World → Prop, Shut (∀ a w, S w → (S w → wpAnyH P md ops Q S fuel (listed.setIfInBounds i true) a w) → K a w) → if Region.wanted oi (yielded ops a.tmps) = true then Oper.wp P oi a w K Q else K (a.put oi.dst undef) w)
    (hr : Region.ready md ops listed = [i] := by kernel_rfl) : wpAnyH P md ops Q S (fuel + 1) listed a w :=
  wpAnyH_ready hr (List.cons_ne_nil _ _) (AllReadyH.cons (nth_ops hi) h AllReadyH.nil)
end
end Go.Proofs.Ytpgfolfhfhfdhaa
