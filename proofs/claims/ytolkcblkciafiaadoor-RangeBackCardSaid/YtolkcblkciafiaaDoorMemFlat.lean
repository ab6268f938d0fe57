/-
  Slices of many cells an element that the call itself made, cell by cell; a new block; rows of unlike types. Conditions: as each states.
-/
import Derived.Test.YtolkcblkciafiaaDoorNumMem
namespace Go.Proofs.YtolkcblkciafiaaDoor.Num
open Go.RowKit

/-- A new block reads as its cells. -/
theorem news_new (w : World) (L : List Value) (t : TypeId) : ∀ j u, L[j]? = some u → (w.alloc (.cells L.toArray t)).cell? ((⟨w.heap.size, 0, none⟩ : Addr).add j) = some u := by
  intro j u hu
  have hh : (w.alloc (.cells L.toArray t)).heap[w.heap.size]? = some (.cells L.toArray t) := by
    show (w.heap.push _)[w.heap.size]? = _
    simp
  rw [add_none, cell_of_row _ _ _ L.toArray t (0, 0) hh, Nat.zero_add]
  simpa using hu
theorem flat_get {α : Type} [Inhabited α] (f : α → List Value) (k : Nat) (hk : ∀ x, (f x).length = k) : ∀ (l : List α) (j i : Nat), j < l.length → i < k → (l.flatMap f)[j * k + i]? = (f (l.getD j default))[i]?
  | [], j, i, hj, _ => by simp at hj
  | x :: l, 0, i, _, hi => by
    rw [List.flatMap_cons, List.getElem?_append_left (by rw [hk]; omega)]; simp
  | x :: l, j + 1, i, hj, hi => by
    rw [List.flatMap_cons, List.getElem?_append_right (by rw [hk, Nat.succ_mul]; omega), hk, show (j + 1) * k + i - k = j * k + i by rw [Nat.succ_mul]; omega, flat_get f k hk l j i (by simpa using hj) hi]; simp
theorem flat_len {α : Type} (f : α → List Value) (k : Nat) (hk : ∀ x, (f x).length = k) : ∀ l : List α, (l.flatMap f).length = l.length * k
  | [] => by simp
  | x :: l => by rw [List.flatMap_cons, List.length_append, hk, flat_len f k hk l, List.length_cons, Nat.succ_mul]; omega
theorem flat_one {α : Type} (f : α → List Value) (h : ∀ x, ∀ u ∈ f x, u.oneCell' = true) (l : List α) : ∀ u ∈ l.flatMap f, u.oneCell' = true := by
  intro u hu; obtain ⟨x, _, hx⟩ := List.mem_flatMap.1 hu; exact h x u hx
/-- What an owned slice reads as, cell by cell. -/
theorem own_cells {α : Type} [Inhabited α] {f : α → List Value} {k : Nat} (hk : ∀ x, (f x).length = k) {w : World} {base : Nat} {e : TypeId} {v : Value} {n : Nat} {l : List α} (h : w.ownsRow base e k v n (l.flatMap f)) (hl : l.length = n) :
    ∃ A c, v = .slice A n c ∧ n ≤ c ∧ (A = none → c = 0) ∧ (0 < n → ∃ g, A = some ⟨g, 0, none⟩ ∧ base ≤ g ∧ g < w.heap.size ∧ (∀ o, w.frozen? ⟨g, o, none⟩ = false) ∧ ∀ j, j < n → ∀ i u, (f (l.getD j default))[i]? = some u → w.cell? ⟨g, 0 + j * k + i, none⟩ = some u) := by
  have hcs := fun g => h.cells (g := g)
  rcases h.2 with ⟨rfl, rfl⟩ | ⟨g, cap, cur, rfl, hg0, hg, hnc, hcm, _, _⟩
  · exact ⟨none, 0, rfl, Nat.le_refl _, fun _ => rfl, fun h0 => by omega⟩
  · refine ⟨_, cap, rfl, hnc, (fun e => by cases e), fun h0 => ⟨g, rfl, hg0, (Array.getElem?_eq_some_iff.1 hg).1, fun o => ?_, fun j hj i u hu => ?_⟩⟩
    · simp [World.frozen?, hg]
    · have hi : i < k := by have := (List.getElem?_eq_some_iff.1 hu).1; rwa [hk] at this
      have := hcs g rfl (j * k + i) u (by rw [flat_get f k hk l j i (by omega) hi]; exact hu)
      rw [add_none] at this
      rw [Nat.add_assoc]; exact this
/-- Rows of unlike types lie in unlike blocks. -/
theorem own_apart {w : World} {B1 B2 : Nat} {e1 e2 : TypeId} {k1 k2 : Nat} {v1 v2 : Value} {n1 n2 : Nat} {x1 x2 : List Value} (h1 : w.ownsRow B1 e1 k1 v1 n1 x1) (h2 : w.ownsRow B2 e2 k2 v2 n2 x2) (hne : e1 ≠ e2) : v1.ownBlock = none ∨ v1.ownBlock ≠ v2.ownBlock := by
  rcases h1.2 with ⟨rfl, _⟩ | ⟨g1, c1, u1, rfl, _, hg1, _⟩
  · exact .inl rfl
  · right
    rcases h2.2 with ⟨rfl, _⟩ | ⟨g2, c2, u2, rfl, _, hg2, _⟩
    · intro h; cases h
    · intro h
      have e : g1 = g2 := by simpa [Value.ownBlock] using h
      subst e
      rw [hg1] at hg2
      injection hg2 with hg2
      injection hg2 with _ h
      exact hne h

end Go.Proofs.YtolkcblkciafiaaDoor.Num
