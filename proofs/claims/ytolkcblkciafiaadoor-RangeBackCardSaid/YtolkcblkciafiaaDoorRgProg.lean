/-
  Expressions as plain lists of bytes: blanks, what stands next; each part that is read takes a byte at least; how often a reader may go on makes no difference; an end is a piece of what there was. No condition.
-/
import Derived.Test.YtolkcblkciafiaaDoorRgMath
namespace Go.Proofs.YtolkcblkciafiaaDoor.Range
open Num Ident Semver

theorem stands_nil (s : List UInt8) : stands [] s = true := by cases s <;> rfl
theorem stands_none (t : UInt8) (ts : List UInt8) : stands (t :: ts) [] = false := rfl
theorem stands_cons (t : UInt8) (ts : List UInt8) (b : UInt8) (s : List UInt8) : stands (t :: ts) (b :: s) = (t == b && stands ts s) := rfl
theorem stands_split {t s : List UInt8} (h : stands t s = true) : s = t ++ s.drop t.length := by
  unfold stands at h
  obtain ⟨u, rfl⟩ := List.isPrefixOf_iff_prefix.1 h
  simp
theorem stands_cat (t u : List UInt8) : stands t (t ++ u) = true := by
  unfold stands; exact List.isPrefixOf_iff_prefix.2 ⟨u, rfl⟩
theorem stands_len {t s : List UInt8} (h : stands t s = true) : t.length ≤ s.length := by
  rw [stands_split h]; simp
theorem blanks_drop (s : List UInt8) : ∃ k, k ≤ s.length ∧ blanks s = s.drop k := by
  induction s with
  | nil => exact ⟨0, by simp, rfl⟩
  | cons b s ih =>
    rw [blanks]
    split
    · obtain ⟨k, h1, h2⟩ := ih
      exact ⟨k + 1, by simpa using h1, by rw [h2]; rfl⟩
    · exact ⟨0, by simp, rfl⟩
theorem blanks_len (s : List UInt8) : (blanks s).length ≤ s.length := by
  obtain ⟨k, _, h⟩ := blanks_drop s
  rw [h, List.length_drop]; omega
theorem blanks_yes {b : UInt8} (s : List UInt8) (h : blankB b = true) : blanks (b :: s) = blanks s := by rw [blanks, if_pos h]
theorem blanks_no {b : UInt8} (s : List UInt8) (h : blankB b = false) : blanks (b :: s) = b :: s := by rw [blanks, h]; simp
theorem blanks_twice (s : List UInt8) : blanks (blanks s) = blanks s := by
  induction s with
  | nil => rfl
  | cons b s ih =>
    rw [blanks]
    split
    · exact ih
    · rename_i h; rw [blanks, if_neg h]
theorem lackN_ne (s : List UInt8) : lackN s ≠ 0 := by unfold lackN; split <;> decide
/-- A text that ends within another one. -/
def Piece (s' s : List UInt8) : Prop := ∃ k, s' = s.drop k
theorem Piece.refl (s : List UInt8) : Piece s s := ⟨0, rfl⟩
theorem Piece.trans {a b c : List UInt8} (h : Piece a b) (k : Piece b c) : Piece a c := by
  obtain ⟨i, rfl⟩ := h
  obtain ⟨j, rfl⟩ := k
  exact ⟨j + i, by rw [List.drop_drop]⟩
theorem Piece.drop (s : List UInt8) (k : Nat) : Piece (s.drop k) s := ⟨k, rfl⟩
theorem Piece.blanks (s : List UInt8) : Piece (blanks s) s := by
  obtain ⟨k, _, h⟩ := blanks_drop s
  exact ⟨k, h⟩
theorem Piece.len {a b : List UInt8} (h : Piece a b) : a.length ≤ b.length := by
  obtain ⟨k, rfl⟩ := h; rw [List.length_drop]; omega
/-- What is read takes a byte at least. -/
def Prog (pf : List UInt8 → Out) : Prop := ∀ s, (pf s).1 = 0 → (pf s).2.1.length < s.length
def Falls (ff : List UInt8 → Option (List UInt8)) : Prop := ∀ s s', ff s = some s' → s'.length ≤ s.length
def Pieces (pf : List UInt8 → Out) : Prop := ∀ s, Piece (pf s).2.1 s
def PiecesF (ff : List UInt8 → Option (List UInt8)) : Prop := ∀ s s', ff s = some s' → Piece s' s
theorem furE_piece : PiecesF furE := by
  intro s s' h
  unfold furE at h
  split at h
  · injection h with h; rw [← h]; exact (Piece.blanks _).trans (Piece.drop _ _)
  · cases h
theorem furO_piece : PiecesF furO := by
  intro s s' h
  unfold furO at h
  split at h
  · injection h with h; rw [← h]; exact (Piece.blanks _).trans (Piece.drop _ _)
  · split at h
    · injection h with h; rw [← h]; exact Piece.refl _
    · cases h
theorem PiecesF.falls {ff : List UInt8 → Option (List UInt8)} (h : PiecesF ff) : Falls ff := fun s s' e => (h s s' e).len
theorem sev_bad {pf : List UInt8 → Out} {ff : List UInt8 → Option (List UInt8)} {kind : Int} {n : Nat} {acc : List Rng} {s : List UInt8} (h : (pf s).1 ≠ 0) : sev pf ff kind (n + 1) acc s = ((pf s).1, (pf s).2.1, noRng) := by rw [sev, if_pos h]
theorem sev_on {pf : List UInt8 → Out} {ff : List UInt8 → Option (List UInt8)} {kind : Int} {n : Nat} {acc : List Rng} {s s' : List UInt8} (h : (pf s).1 = 0) (hf : ff (pf s).2.1 = some s') : sev pf ff kind (n + 1) acc s = sev pf ff kind n (acc ++ [(pf s).2.2]) s' := by
  rw [sev, if_neg (by simp [h]), hf]
theorem sev_end {pf : List UInt8 → Out} {ff : List UInt8 → Option (List UInt8)} {kind : Int} {n : Nat} {acc : List Rng} {s : List UInt8} (h : (pf s).1 = 0) (hf : ff (pf s).2.1 = none) : sev pf ff kind (n + 1) acc s = (0, (pf s).2.1, whole kind acc (pf s).2.2) := by
  rw [sev, if_neg (by simp [h]), hf]
theorem sev_prog {pf : List UInt8 → Out} {ff : List UInt8 → Option (List UInt8)} {kind : Int} (hp : Prog pf) (hf : Falls ff) : ∀ (n : Nat) (acc : List Rng) (s : List UInt8), (sev pf ff kind n acc s).1 = 0 → (sev pf ff kind n acc s).2.1.length < s.length
  | 0, _, _, h => by rw [sev] at h; exact absurd h (by simp)
  | n + 1, acc, s, h => by
    by_cases h0 : (pf s).1 = 0
    · have h1 := hp s h0
      cases h2 : ff (pf s).2.1 with
      | some s' =>
        rw [sev_on h0 h2] at h ⊢
        have := sev_prog hp hf n _ s' h
        have := hf _ _ h2
        omega
      | none => rw [sev_end h0 h2]; exact h1
    · rw [sev_bad h0] at h; exact absurd h h0
theorem sev_piece {pf : List UInt8 → Out} {ff : List UInt8 → Option (List UInt8)} {kind : Int} (hp : Pieces pf) (hf : PiecesF ff) : ∀ (n : Nat) (acc : List Rng) (s : List UInt8), Piece (sev pf ff kind n acc s).2.1 s
  | 0, _, _ => Piece.refl _
  | n + 1, acc, s => by
    by_cases h0 : (pf s).1 = 0
    · cases h2 : ff (pf s).2.1 with
      | some s' => rw [sev_on h0 h2]; exact ((sev_piece hp hf n _ s').trans (hf _ _ h2)).trans (hp s)
      | none => rw [sev_end h0 h2]; exact hp s
    · rw [sev_bad h0]; exact hp s
/-- How often it may go on makes no difference, if it is enough. -/
theorem sev_fuel {pf : List UInt8 → Out} {ff : List UInt8 → Option (List UInt8)} {kind : Int} (hp : Prog pf) (hf : Falls ff) : ∀ (n m : Nat) (acc : List Rng) (s : List UInt8), s.length < n → s.length < m → sev pf ff kind n acc s = sev pf ff kind m acc s
  | 0, _, _, _, h, _ => absurd h (Nat.not_lt_zero _)
  | _ + 1, 0, _, _, _, h => absurd h (Nat.not_lt_zero _)
  | n + 1, m + 1, acc, s, h, h' => by
    by_cases h0 : (pf s).1 = 0
    · have h1 := hp s h0
      cases h2 : ff (pf s).2.1 with
      | some s' =>
        rw [sev_on h0 h2, sev_on h0 h2]
        have := hf _ _ h2
        exact sev_fuel hp hf n m _ s' (by omega) (by omega)
      | none => rw [sev_end h0 h2, sev_end h0 h2]
    · rw [sev_bad h0, sev_bad h0]
theorem everyF_prog {pf : List UInt8 → Out} (h : Prog pf) : Prog (everyF pf) := fun s => sev_prog h furO_piece.falls _ _ s
theorem exprF_prog {pf : List UInt8 → Out} (h : Prog pf) : Prog (exprF pf) := fun s => sev_prog (everyF_prog h) furE_piece.falls _ _ s
theorem everyF_piece {pf : List UInt8 → Out} (h : Pieces pf) : Pieces (everyF pf) := fun s => sev_piece h furO_piece _ _ s
theorem exprF_piece {pf : List UInt8 → Out} (h : Pieces pf) : Pieces (exprF pf) := fun s => sev_piece (everyF_piece h) furE_piece _ _ s
theorem ver_piece (kind : Int) : Pieces (verAt kind) := by
  intro s
  unfold verAt
  split
  · split
    · exact Piece.drop _ _
    · exact (Piece.blanks _).trans (Piece.drop _ _)
  · exact Piece.refl _
theorem shutF_piece {t : Out} {s : List UInt8} (h : Piece t.2.1 s) : Piece (shutF t).2.1 s := by
  unfold shutF
  split
  · exact h
  · split
    · exact ((Piece.blanks _).trans (Piece.drop _ _)).trans h
    · exact h
theorem notF_piece {t : Out} {s : List UInt8} (h : Piece t.2.1 s) : Piece (notF t).2.1 s := by
  unfold notF; split <;> exact h
theorem oneF_piece {sub : Option (List UInt8 → Out)} (h : ∀ f, sub = some f → Pieces f) : Pieces (oneF sub) := by
  intro s
  have hd : ∀ k, Piece (blanks (s.drop k)) s := fun k => (Piece.blanks _).trans (Piece.drop _ _)
  unfold oneF
  split
  · exact hd 1
  · split
    · cases sub with
      | none => exact Piece.refl _
      | some f => exact shutF_piece ((exprF_piece (h f rfl) _).trans (hd 1))
    · split
      · cases sub with
        | none => exact Piece.refl _
        | some f => exact notF_piece ((h f rfl _).trans (hd 1))
      · exact (ver_piece _ _).trans (hd _)
theorem pone_piece : ∀ k, Pieces (pone k)
  | 0 => oneF_piece fun f h => by cases h
  | k + 1 => oneF_piece fun f h => by injection h with h; rw [← h]; exact pone_piece k
theorem oneOf_cons {some s : List UInt8} (h : oneOf some s = true) : ∃ b r, s = b :: r ∧ b ∈ some := by
  cases s with
  | nil => cases h
  | cons b r => exact ⟨b, r, rfl, of_decide_eq_true h⟩
/-- A version that is read takes a byte at least. -/
theorem core2_ge {l : List UInt8} {x y p : Nat} (h : (core2 l x y p).1 = 0) : p ≤ (core2 l x y p).2.1 := by
  unfold core2 at h ⊢
  by_cases h0 : (parse l p).2.2 ≠ 0
  · rw [if_pos h0] at h; exact absurd h h0
  · rw [if_neg h0]; exact Nat.le_add_right _ _
theorem after2_gt {l : List UInt8} {x y q : Nat} (h : (after2 l x y q).1 = 0) : q < (after2 l x y q).2.1 := by
  unfold after2 at h ⊢
  by_cases h0 : point l q ≠ 0
  · rw [if_pos h0] at h; exact absurd h h0
  · rw [if_neg h0] at h ⊢; exact core2_ge h
theorem core1_ge {l : List UInt8} {x p : Nat} (h : (core1 l x p).1 = 0) : p ≤ (core1 l x p).2.1 := by
  unfold core1 at h ⊢
  by_cases h0 : (parse l p).2.2 ≠ 0
  · rw [if_pos h0] at h; exact absurd h h0
  · rw [if_neg h0] at h ⊢; have := after2_gt h; omega
theorem after1_gt {l : List UInt8} {x q : Nat} (h : (after1 l x q).1 = 0) : q < (after1 l x q).2.1 := by
  unfold after1 at h ⊢
  by_cases h0 : point l q ≠ 0
  · rw [if_pos h0] at h; exact absurd h h0
  · rw [if_neg h0] at h ⊢; exact core1_ge h
theorem core_gt {l : List UInt8} {p : Nat} (h : (core l p).1 = 0) : p < (core l p).2.1 := by
  unfold core at h ⊢
  by_cases h0 : (parse l p).2.2 ≠ 0
  · rw [if_pos h0] at h; exact absurd h h0
  · rw [if_neg h0] at h ⊢; have := after1_gt h; omega
theorem rowAt_ge (l : List UInt8) (p m : Nat) : p ≤ (Semver.rowAt l p m).2.1 := by
  unfold Semver.rowAt; split
  · exact Nat.le_refl _
  · show p ≤ p + 1 + _; omega
theorem inside_gt {l : List UInt8} {p : Nat} (h : (inside l p).1 = 0) : p < (inside l p).2.1 := by
  unfold inside at h ⊢
  by_cases h0 : (core l p).1 ≠ 0
  · rw [if_pos h0] at h; exact absurd h h0
  · rw [if_neg h0] at h ⊢
    have h1 := core_gt (l := l) (p := p) (by simpa using h0)
    unfold tail1 at h ⊢
    have h2 := rowAt_ge l (core l p).2.1 45
    by_cases h3 : (Semver.rowAt l (core l p).2.1 45).1 ≠ 0
    · rw [if_pos h3] at h; exact absurd h h3
    · rw [if_neg h3] at h ⊢
      unfold tail2 at h ⊢
      have h4 := rowAt_ge l (Semver.rowAt l (core l p).2.1 45).2.1 43
      split
      · rename_i h5; rw [if_pos h5] at h; exact absurd h h5
      · show p < (Semver.rowAt l (Semver.rowAt l (core l p).2.1 45).2.1 43).2.1; omega
theorem vparse_gt {l : List UInt8} (h : (vparse l 0).1 = 0) : 0 < (vparse l 0).2.1 := by
  unfold vparse at h ⊢
  rw [if_neg (by omega), Int.toNat_zero] at h ⊢
  exact inside_gt h
theorem ver_prog (kind : Int) : Prog (verAt kind) := by
  intro s h
  unfold verAt at h ⊢
  by_cases h0 : oneOf digits s = true
  · obtain ⟨b, r, rfl, _⟩ := oneOf_cons h0
    rw [if_pos h0] at h ⊢
    by_cases h1 : (vparse (b :: r) 0).1 ≠ 0
    · rw [if_pos h1] at h; exact absurd h h1
    · rw [if_neg h1]
      have h2 := vparse_gt (l := b :: r) (by simpa using h1)
      have h3 := blanks_len ((b :: r).drop (vparse (b :: r) 0).2.1)
      simp only [List.length_drop, List.length_cons] at h3 ⊢
      omega
  · rw [if_neg h0] at h; exact absurd h (lackN_ne s)
theorem shutF_prog {t : Out} (h : (shutF t).1 = 0) : t.1 = 0 ∧ stands [41] t.2.1 = true ∧ shutF t = (0, blanks (t.2.1.drop 1), t.2.2) := by
  unfold shutF at h ⊢
  by_cases h0 : t.1 ≠ 0
  · rw [if_pos h0] at h; exact absurd h h0
  · rw [if_neg h0] at h ⊢
    by_cases h1 : stands [41] t.2.1 = true
    · exact ⟨by simpa using h0, h1, by rw [if_pos h1]⟩
    · rw [if_neg h1] at h; exact absurd h (lackN_ne _)
theorem notF_prog {t : Out} (h : (notF t).1 = 0) : t.1 = 0 ∧ notF t = (0, t.2.1, .mk 11 noVer [t.2.2]) := by
  unfold notF at h ⊢
  by_cases h0 : t.1 ≠ 0
  · rw [if_pos h0] at h; exact absurd h h0
  · rw [if_neg h0]; exact ⟨by simpa using h0, rfl⟩
theorem oneF_prog {sub : Option (List UInt8 → Out)} (hs : ∀ f, sub = some f → Prog f) : Prog (oneF sub) := by
  intro s h
  have hd : ∀ k, 0 < k → k ≤ s.length → (blanks (s.drop k)).length < s.length := fun k h0 hk => by
    have := blanks_len (s.drop k); rw [List.length_drop] at this; omega
  unfold oneF at h ⊢
  by_cases h1 : stands [42] s = true
  · rw [if_pos h1]; exact hd 1 (by decide) (stands_len h1)
  · rw [if_neg h1] at h ⊢
    by_cases h2 : stands [40] s = true
    · rw [if_pos h2] at h ⊢
      have h3 := hd 1 (by decide) (stands_len h2)
      cases sub with
      | none => exact absurd h (show (8 : Nat) ≠ 0 by decide)
      | some f =>
        simp only at h ⊢
        obtain ⟨a1, a2, a3⟩ := shutF_prog h
        rw [a3]
        have h4 := exprF_prog (hs f rfl) _ a1
        have h5 := blanks_len ((exprF f (blanks (s.drop 1))).2.1.drop 1)
        rw [List.length_drop] at h5
        show (blanks _).length < _
        omega
    · rw [if_neg h2] at h ⊢
      by_cases h3 : (opOf s).2 = [] ∧ stands [33] s = true
      · rw [if_pos h3] at h ⊢
        have h4 := hd 1 (by decide) (stands_len h3.2)
        cases sub with
        | none => exact absurd h (show (8 : Nat) ≠ 0 by decide)
        | some f =>
          simp only at h ⊢
          obtain ⟨a1, a2⟩ := notF_prog h
          rw [a2]
          have h5 := hs f rfl _ a1
          show (f (blanks (s.drop 1))).2.1.length < _
          omega
      · rw [if_neg h3] at h ⊢
        have h4 := ver_prog _ _ h
        have h5 := blanks_len (s.drop (opOf s).2.length)
        rw [List.length_drop] at h5
        omega
theorem pone_prog : ∀ k, Prog (pone k)
  | 0 => oneF_prog fun f h => by cases h
  | k + 1 => oneF_prog fun f h => by injection h with h; rw [← h]; exact pone_prog k
end Go.Proofs.YtolkcblkciafiaaDoor.Range
