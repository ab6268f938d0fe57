/-
  A scope with two labels, 0 and 1, that the run jumps back to; label 1 stands behind label 0. No condition.
-/
import Derived.Test.YtdbdeadcffpbfaaGreatDoorNumMem
namespace Go.Proofs.YtdbdeadcffpbfaaGreatDoor.Span
open Go.RowKit

/-- As Q; by a goto: J of the label. -/
def jumps (J : Nat → Act → World → Prop) (Q : Exit → Act → World → Prop) : Exit → Act → World → Prop
  | .goto l, a, w => J l a w
  | e, a, w => Q e a w
/-- What holds at a jump: at either label what holds there, and the measure is less. -/
def Less (J0 J1 : Act → World → Prop) (m0 m1 : Act → World → Nat) (m : Nat) (l : Nat) (a : Act) (w : World) : Prop := (l = 0 ∧ J0 a w ∧ m0 a w < m) ∨ (l = 1 ∧ J1 a w ∧ m1 a w < m)
theorem wp_two {P : Program} {a : Act} {w : World} {Q : Exit → Act → World → Prop} {c rest0 rest1 : Code} (J0 J1 : Act → World → Prop) (m0 m1 : Act → World → Nat) (hf0 : findLabel c 0 = some (Code.skip.seq rest0)) (hf1 : findLabel c 1 = some (Code.skip.seq rest1))
    (pass1 : ∀ m a w, J1 a w → m1 a w = m → rest1.wp P (jumps (Less J0 J1 m0 m1 m) Q) a w)
    (pass0 : Hid (∀ m a w, J1 a w → m1 a w ≤ m → rest1.wp P (jumps (Less J0 J1 m0 m1 m) Q) a w) → ∀ m a w, J0 a w → m0 a w = m → rest0.wp P (jumps (Less J0 J1 m0 m1 m) Q) a w)
    (first : Hid (∀ a w, J0 a w → rest0.wp P (jumps (fun l a w => (l = 0 ∧ J0 a w) ∨ (l = 1 ∧ J1 a w)) Q) a w) → c.wp P (jumps (fun l a w => (l = 0 ∧ J0 a w) ∨ (l = 1 ∧ J1 a w)) Q) a w) : (Code.scope c).wp P Q a w := by
  have mono1 : ∀ m a w, J1 a w → m1 a w ≤ m → rest1.wp P (jumps (Less J0 J1 m0 m1 m) Q) a w := fun m a w h hm =>
    wp_mono (pass1 _ a w h rfl) (fun e _ _ hq => by
      cases e <;> first | exact hq | (rcases hq with ⟨h1, h2, h3⟩ | ⟨h1, h2, h3⟩; exact .inl ⟨h1, h2, Nat.lt_of_lt_of_le h3 hm⟩; exact .inr ⟨h1, h2, Nat.lt_of_lt_of_le h3 hm⟩))
  have p0 := pass0 mono1
  have first := first fun a w h => wp_mono (p0 _ a w h rfl) (fun e _ _ hq => by
      cases e <;> first | exact hq | (rcases hq with ⟨h1, h2, h3⟩ | ⟨h1, h2, h3⟩; exact .inl ⟨h1, h2⟩; exact .inr ⟨h1, h2⟩))
  intro b k cs
  have hg0 : gotoIn 0 (.inScope c :: k) = some (.code (Code.skip.seq rest0) :: .inScope c :: k) := by simp [gotoIn, hf0]
  have hg1 : gotoIn 1 (.inScope c :: k) = some (.code (Code.skip.seq rest1) :: .inScope c :: k) := by simp [gotoIn, hf1]
  have key : ∀ n, (∀ a w, m0 a w ≤ n → J0 a w → ∃ e a' w', Q e a' w' ∧ Arrives P (lone (b.at a (.code (Code.skip.seq rest0) :: .inScope c :: k)) cs w) b k cs e a' w') ∧ (∀ a w, m1 a w ≤ n → J1 a w → ∃ e a' w', Q e a' w' ∧ Arrives P (lone (b.at a (.code (Code.skip.seq rest1) :: .inScope c :: k)) cs w) b k cs e a' w') := by
    intro n
    induction n using Nat.strongRecOn with
    | _ n ih =>
      have go : ∀ (rest : Code) (m : Nat) (a : Act) (w : World), m ≤ n → rest.wp P (jumps (Less J0 J1 m0 m1 m) Q) a w → ∃ e a' w', Q e a' w' ∧ Arrives P (lone (b.at a (.code (Code.skip.seq rest) :: .inScope c :: k)) cs w) b k cs e a' w' := by
        intro rest m a w hm hw
        obtain ⟨e, a₁, w₁, hq, harr⟩ := (wp_seq (wp_skip hw) : (Code.skip.seq rest).wp P _ a w) b (.inScope c :: k) cs
        cases e with
        | normal => exact ⟨.normal, a₁, w₁, hq, Steps.trans harr (.one step_inScope)⟩
        | exit id => exact ⟨.exit id, a₁, w₁, hq, fun k' hk => harr k' (by simp [exitTo, hk])⟩
        | goto l' =>
          rcases hq with ⟨rfl, hJ', hlt⟩ | ⟨rfl, hJ', hlt⟩
          · obtain ⟨e₂, a₂, w₂, hq₂, harr₂⟩ := (ih _ (Nat.lt_of_lt_of_le hlt hm)).1 a₁ w₁ (Nat.le_refl _) hJ'
            exact ⟨e₂, a₂, w₂, hq₂, .of_steps (harr _ hg0) harr₂⟩
          · obtain ⟨e₂, a₂, w₂, hq₂, harr₂⟩ := (ih _ (Nat.lt_of_lt_of_le hlt hm)).2 a₁ w₁ (Nat.le_refl _) hJ'
            exact ⟨e₂, a₂, w₂, hq₂, .of_steps (harr _ hg1) harr₂⟩
        | ret => exact ⟨_, a₁, w₁, hq, harr⟩
        | panic ch => exact ⟨_, a₁, w₁, hq, harr⟩
        | outgrown => exact ⟨_, a₁, w₁, hq, harr⟩
      exact ⟨fun a w hm hJ => go rest0 _ a w hm (p0 _ a w hJ rfl), fun a w hm hJ => go rest1 _ a w hm (pass1 _ a w hJ rfl)⟩
  obtain ⟨e, a₁, w₁, hq, harr⟩ := first b (.inScope c :: k) cs
  cases e with
  | normal => exact ⟨.normal, a₁, w₁, hq, .head step_scope (Steps.trans harr (.one step_inScope))⟩
  | exit id => exact ⟨.exit id, a₁, w₁, hq, fun k' hk => .head step_scope (harr k' (by simp [exitTo, hk]))⟩
  | goto l' =>
    rcases hq with ⟨rfl, hJ'⟩ | ⟨rfl, hJ'⟩
    · obtain ⟨e₂, a₂, w₂, hq₂, harr₂⟩ := (key _).1 a₁ w₁ (Nat.le_refl _) hJ'
      exact ⟨e₂, a₂, w₂, hq₂, .of_steps (.head step_scope (harr _ hg0)) harr₂⟩
    · obtain ⟨e₂, a₂, w₂, hq₂, harr₂⟩ := (key _).2 a₁ w₁ (Nat.le_refl _) hJ'
      exact ⟨e₂, a₂, w₂, hq₂, .of_steps (.head step_scope (harr _ hg1)) harr₂⟩
  | ret => exact ⟨_, a₁, w₁, hq, .of_steps (.one step_scope) harr⟩
  | panic ch => exact ⟨_, a₁, w₁, hq, .of_steps (.one step_scope) harr⟩
  | outgrown => exact ⟨_, a₁, w₁, hq, .of_steps (.one step_scope) harr⟩
end Go.Proofs.YtdbdeadcffpbfaaGreatDoor.Span
