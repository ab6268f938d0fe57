/-
  What the theorem of the last text needs of these: RgProg, SvMem, MemFlat. Conditions: as each theorem states.
-/
import Derived.Test.YtgfbflnhjpbceaaGreatDoorAgaB1
import Derived.Test.YtgfbflnhjpbceaaGreatDoorAgaB2
set_option maxRecDepth 100000
set_option maxHeartbeats 25600000
namespace Go.Proofs.YtgfbflnhjpbceaaGreatDoor.Range
open Num Ident Semver

theorem stands_nil (s : List UInt8) : stands [] s = true := by cases s <;> rfl
theorem stands_cons (t : UInt8) (ts : List UInt8) (b : UInt8) (s : List UInt8) : stands (t :: ts) (b :: s) = (t == b && stands ts s) := rfl
theorem stands_split {t s : List UInt8} (h : stands t s = true) : s = t ++ s.drop t.length := by
 unfold stands at h
 obtain ⟨u, rfl⟩ := List.isPrefixOf_iff_prefix.1 h
 simp
theorem stands_len {t s : List UInt8} (h : stands t s = true) : t.length ≤ s.length := by
 rw [stands_split h]; simp
theorem blanks_drop (s : List UInt8) : ∃ k, k ≤ s.length ∧ blanks s = s.drop k := by
 induction s with
 | nil => exact ⟨0, by simp, rfl⟩
 | cons b s ih =>
  rw [blanks]
  split
  ·obtain ⟨k, h1, h2⟩ := ih
   exact ⟨k + 1, by simpa using h1, by rw [h2]; rfl⟩
  ·exact ⟨0, by simp, rfl⟩
theorem blanks_len (s : List UInt8) : (blanks s).length ≤ s.length := by
 obtain ⟨k, _, h⟩ := blanks_drop s
 rw [h, List.length_drop]; omega
theorem blanks_yes {b : UInt8} (s : List UInt8) (h : blankB b = true) : blanks (b :: s) = blanks s := by rw [blanks, if_pos h]
theorem blanks_no {b : UInt8} (s : List UInt8) (h : blankB b = false) : blanks (b :: s) = b :: s := by rw [blanks, h]; simp
theorem lackN_ne (s : List UInt8) : lackN s ≠ 0 := by unfold lackN; split <;> decide
def Piece (s' s : List UInt8) : Prop := ∃ k, s' = s.drop k
theorem Piece.refl (s : List UInt8) : Piece s s := ⟨0, rfl⟩
theorem Piece.trans {a b c : List UInt8} (h : Piece a b) (k : Piece b c) : Piece a c := by
 obtain ⟨i, rfl⟩ := h
 obtain ⟨j, rfl⟩ := k
 exact ⟨j + i, by rw [List.drop_drop]⟩
theorem Piece.drop (s : List UInt8) (k : Nat) : Piece (s.drop k) s := ⟨k, rfl⟩
theorem Piece.blanks (s : List UInt8) : Piece (blanks s) s := by
 obtain ⟨k, _, h⟩ := blanks_drop s
 exact ⟨k, h⟩
theorem Piece.len {a b : List UInt8} (h : Piece a b) : a.length ≤ b.length := by
 obtain ⟨k, rfl⟩ := h; rw [List.length_drop]; omega
def Prog (pf : List UInt8 → Out) : Prop := ∀ s, (pf s).1 = 0 → (pf s).2.1.length < s.length
def Falls (ff : List UInt8 → Option (List UInt8)) : Prop := ∀ s s', ff s = some s' → s'.length ≤ s.length
def Pieces (pf : List UInt8 → Out) : Prop := ∀ s, Piece (pf s).2.1 s
def PiecesF (ff : List UInt8 → Option (List UInt8)) : Prop := ∀ s s', ff s = some s' → Piece s' s
theorem furE_piece : PiecesF furE := by
 intro s s' h
 unfold furE at h
 split at h
 ·injection h with h; rw [← h]; exact (Piece.blanks _).trans (Piece.drop _ _)
 ·cases h
theorem furO_piece : PiecesF furO := by
 intro s s' h
 unfold furO at h
 split at h
 ·injection h with h; rw [← h]; exact (Piece.blanks _).trans (Piece.drop _ _)
 ·split at h
  ·injection h with h; rw [← h]; exact Piece.refl _
  ·cases h
theorem PiecesF.falls {ff : List UInt8 → Option (List UInt8)} (h : PiecesF ff) : Falls ff := fun s s' e => (h s s' e).len
theorem sev_bad {pf : List UInt8 → Out} {ff : List UInt8 → Option (List UInt8)} {kind : Int} {n : Nat} {acc : List Rng} {s : List UInt8} (h : (pf s).1 ≠ 0) : sev pf ff kind (n + 1) acc s = ((pf s).1, (pf s).2.1, noRng) := by rw [sev, if_pos h]
theorem sev_on {pf : List UInt8 → Out} {ff : List UInt8 → Option (List UInt8)} {kind : Int} {n : Nat} {acc : List Rng} {s s' : List UInt8} (h : (pf s).1 = 0) (hf : ff (pf s).2.1 = some s') : sev pf ff kind (n + 1) acc s = sev pf ff kind n (acc ++ [(pf s).2.2]) s' := by
 rw [sev, if_neg (by simp [h]), hf]
theorem sev_end {pf : List UInt8 → Out} {ff : List UInt8 → Option (List UInt8)} {kind : Int} {n : Nat} {acc : List Rng} {s : List UInt8} (h : (pf s).1 = 0) (hf : ff (pf s).2.1 = none) : sev pf ff kind (n + 1) acc s = (0, (pf s).2.1, whole kind acc (pf s).2.2) := by
 rw [sev, if_neg (by simp [h]), hf]
theorem sev_prog {pf : List UInt8 → Out} {ff : List UInt8 → Option (List UInt8)} {kind : Int} (hp : Prog pf) (hf : Falls ff) : ∀ (n : Nat) (acc : List Rng) (s : List UInt8), (sev pf ff kind n acc s).1 = 0 → (sev pf ff kind n acc s).2.1.length < s.length
 | 0, _, _, h => by rw [sev] at h; exact absurd h (by simp)
 | n + 1, acc, s, h => by
  by_cases h0 : (pf s).1 = 0
  ·have h1 := hp s h0
   cases h2 : ff (pf s).2.1 with
   | some s' =>
    rw [sev_on h0 h2] at h ⊢
    have := sev_prog hp hf n _ s' h
    have := hf _ _ h2
    omega
   | none => rw [sev_end h0 h2]; exact h1
  ·rw [sev_bad h0] at h; exact absurd h h0
theorem sev_piece {pf : List UInt8 → Out} {ff : List UInt8 → Option (List UInt8)} {kind : Int} (hp : Pieces pf) (hf : PiecesF ff) : ∀ (n : Nat) (acc : List Rng) (s : List UInt8), Piece (sev pf ff kind n acc s).2.1 s
 | 0, _, _ => Piece.refl _
 | n + 1, acc, s => by
  by_cases h0 : (pf s).1 = 0
  ·cases h2 : ff (pf s).2.1 with
   | some s' => rw [sev_on h0 h2]; exact ((sev_piece hp hf n _ s').trans (hf _ _ h2)).trans (hp s)
   | none => rw [sev_end h0 h2]; exact hp s
  ·rw [sev_bad h0]; exact hp s
theorem sev_fuel {pf : List UInt8 → Out} {ff : List UInt8 → Option (List UInt8)} {kind : Int} (hp : Prog pf) (hf : Falls ff) : ∀ (n m : Nat) (acc : List Rng) (s : List UInt8), s.length < n → s.length < m → sev pf ff kind n acc s = sev pf ff kind m acc s
 | 0, _, _, _, h, _ => absurd h (Nat.not_lt_zero _)
 | _ + 1, 0, _, _, _, h => absurd h (Nat.not_lt_zero _)
 | n + 1, m + 1, acc, s, h, h' => by
  by_cases h0 : (pf s).1 = 0
  ·have h1 := hp s h0
   cases h2 : ff (pf s).2.1 with
   | some s' =>
    rw [sev_on h0 h2, sev_on h0 h2]
    have := hf _ _ h2
    exact sev_fuel hp hf n m _ s' (by omega) (by omega)
   | none => rw [sev_end h0 h2, sev_end h0 h2]
  ·rw [sev_bad h0, sev_bad h0]
theorem everyF_prog {pf : List UInt8 → Out} (h : Prog pf) : Prog (everyF pf) := fun s => sev_prog h furO_piece.falls _ _ s
theorem exprF_prog {pf : List UInt8 → Out} (h : Prog pf) : Prog (exprF pf) := fun s => sev_prog (everyF_prog h) furE_piece.falls _ _ s
theorem everyF_piece {pf : List UInt8 → Out} (h : Pieces pf) : Pieces (everyF pf) := fun s => sev_piece h furO_piece _ _ s
theorem exprF_piece {pf : List UInt8 → Out} (h : Pieces pf) : Pieces (exprF pf) := fun s => sev_piece (everyF_piece h) furE_piece _ _ s
theorem ver_piece (kind : Int) : Pieces (verAt kind) := by
 intro s
 unfold verAt
 split
 ·split
  ·exact Piece.drop _ _
  ·exact (Piece.blanks _).trans (Piece.drop _ _)
 ·exact Piece.refl _
theorem shutF_piece {t : Out} {s : List UInt8} (h : Piece t.2.1 s) : Piece (shutF t).2.1 s := by
 unfold shutF
 split
 ·exact h
 ·split
  ·exact ((Piece.blanks _).trans (Piece.drop _ _)).trans h
  ·exact h
theorem notF_piece {t : Out} {s : List UInt8} (h : Piece t.2.1 s) : Piece (notF t).2.1 s := by
 unfold notF; split <;> exact h
theorem oneF_piece {sub : Option (List UInt8 → Out)} (h : ∀ f, sub = some f → Pieces f) : Pieces (oneF sub) := by
 intro s
 have hd : ∀ k, Piece (blanks (s.drop k)) s := fun k => (Piece.blanks _).trans (Piece.drop _ _)
 unfold oneF
 split
 ·exact hd 1
 ·split
  ·cases sub with
   | none => exact Piece.refl _
   | some f => exact shutF_piece ((exprF_piece (h f rfl) _).trans (hd 1))
  ·split
   ·cases sub with
    | none => exact Piece.refl _
    | some f => exact notF_piece ((h f rfl _).trans (hd 1))
   ·exact (ver_piece _ _).trans (hd _)
theorem pone_piece : ∀ k, Pieces (pone k)
 | 0 => oneF_piece fun f h => by cases h
 | k + 1 => oneF_piece fun f h => by injection h with h; rw [← h]; exact pone_piece k
theorem oneOf_cons {some s : List UInt8} (h : oneOf some s = true) : ∃ b r, s = b :: r ∧ b ∈ some := by
 cases s with
 | nil => cases h
 | cons b r => exact ⟨b, r, rfl, of_decide_eq_true h⟩
theorem core2_ge {l : List UInt8} {x y p : Nat} (h : (core2 l x y p).1 = 0) : p ≤ (core2 l x y p).2.1 := by
 unfold core2 at h ⊢
 by_cases h0 : (parse l p).2.2 ≠ 0
 ·rw [if_pos h0] at h; exact absurd h h0
 ·rw [if_neg h0]; exact Nat.le_add_right _ _
theorem after2_gt {l : List UInt8} {x y q : Nat} (h : (after2 l x y q).1 = 0) : q < (after2 l x y q).2.1 := by
 unfold after2 at h ⊢
 by_cases h0 : point l q ≠ 0
 ·rw [if_pos h0] at h; exact absurd h h0
 ·rw [if_neg h0] at h ⊢; exact core2_ge h
theorem core1_ge {l : List UInt8} {x p : Nat} (h : (core1 l x p).1 = 0) : p ≤ (core1 l x p).2.1 := by
 unfold core1 at h ⊢
 by_cases h0 : (parse l p).2.2 ≠ 0
 ·rw [if_pos h0] at h; exact absurd h h0
 ·rw [if_neg h0] at h ⊢; have := after2_gt h; omega
theorem after1_gt {l : List UInt8} {x q : Nat} (h : (after1 l x q).1 = 0) : q < (after1 l x q).2.1 := by
 unfold after1 at h ⊢
 by_cases h0 : point l q ≠ 0
 ·rw [if_pos h0] at h; exact absurd h h0
 ·rw [if_neg h0] at h ⊢; exact core1_ge h
theorem core_gt {l : List UInt8} {p : Nat} (h : (core l p).1 = 0) : p < (core l p).2.1 := by
 unfold core at h ⊢
 by_cases h0 : (parse l p).2.2 ≠ 0
 ·rw [if_pos h0] at h; exact absurd h h0
 ·rw [if_neg h0] at h ⊢; have := after1_gt h; omega
theorem rowAt_ge (l : List UInt8) (p m : Nat) : p ≤ (Semver.rowAt l p m).2.1 := by
 unfold Semver.rowAt; split
 ·exact Nat.le_refl _
 ·show p ≤ p + 1 + _; omega
theorem inside_gt {l : List UInt8} {p : Nat} (h : (inside l p).1 = 0) : p < (inside l p).2.1 := by
 unfold inside at h ⊢
 by_cases h0 : (core l p).1 ≠ 0
 ·rw [if_pos h0] at h; exact absurd h h0
 ·rw [if_neg h0] at h ⊢
  have h1 := core_gt (l := l) (p := p) (by simpa using h0)
  unfold tail1 at h ⊢
  have h2 := rowAt_ge l (core l p).2.1 45
  by_cases h3 : (Semver.rowAt l (core l p).2.1 45).1 ≠ 0
  ·rw [if_pos h3] at h; exact absurd h h3
  ·rw [if_neg h3] at h ⊢
   unfold tail2 at h ⊢
   have h4 := rowAt_ge l (Semver.rowAt l (core l p).2.1 45).2.1 43
   split
   ·rename_i h5; rw [if_pos h5] at h; exact absurd h h5
   ·show p < (Semver.rowAt l (Semver.rowAt l (core l p).2.1 45).2.1 43).2.1; omega
theorem vparse_gt {l : List UInt8} (h : (vparse l 0).1 = 0) : 0 < (vparse l 0).2.1 := by
 unfold vparse at h ⊢
 rw [if_neg (by omega), Int.toNat_zero] at h ⊢
 exact inside_gt h
theorem ver_prog (kind : Int) : Prog (verAt kind) := by
 intro s h
 unfold verAt at h ⊢
 by_cases h0 : oneOf digits s = true
 ·obtain ⟨b, r, rfl, _⟩ := oneOf_cons h0
  rw [if_pos h0] at h ⊢
  by_cases h1 : (vparse (b :: r) 0).1 ≠ 0
  ·rw [if_pos h1] at h; exact absurd h h1
  ·rw [if_neg h1]
   have h2 := vparse_gt (l := b :: r) (by simpa using h1)
   have h3 := blanks_len ((b :: r).drop (vparse (b :: r) 0).2.1)
   simp only [List.length_drop, List.length_cons] at h3 ⊢
   omega
 ·rw [if_neg h0] at h; exact absurd h (lackN_ne s)
theorem shutF_prog {t : Out} (h : (shutF t).1 = 0) : t.1 = 0 ∧ stands [41] t.2.1 = true ∧ shutF t = (0, blanks (t.2.1.drop 1), t.2.2) := by
 unfold shutF at h ⊢
 by_cases h0 : t.1 ≠ 0
 ·rw [if_pos h0] at h; exact absurd h h0
 ·rw [if_neg h0] at h ⊢
  by_cases h1 : stands [41] t.2.1 = true
  ·exact ⟨by simpa using h0, h1, by rw [if_pos h1]⟩
  ·rw [if_neg h1] at h; exact absurd h (lackN_ne _)
theorem notF_prog {t : Out} (h : (notF t).1 = 0) : t.1 = 0 ∧ notF t = (0, t.2.1, .mk 11 noVer [t.2.2]) := by
 unfold notF at h ⊢
 by_cases h0 : t.1 ≠ 0
 ·rw [if_pos h0] at h; exact absurd h h0
 ·rw [if_neg h0]; exact ⟨by simpa using h0, rfl⟩
theorem oneF_prog {sub : Option (List UInt8 → Out)} (hs : ∀ f, sub = some f → Prog f) : Prog (oneF sub) := by
 intro s h
 have hd : ∀ k, 0 < k → k ≤ s.length → (blanks (s.drop k)).length < s.length := fun k h0 hk => by
  have := blanks_len (s.drop k); rw [List.length_drop] at this; omega
 unfold oneF at h ⊢
 by_cases h1 : stands [42] s = true
 ·rw [if_pos h1]; exact hd 1 (by decide) (stands_len h1)
 ·rw [if_neg h1] at h ⊢
  by_cases h2 : stands [40] s = true
  ·rw [if_pos h2] at h ⊢
   have h3 := hd 1 (by decide) (stands_len h2)
   cases sub with
   | none => exact absurd h (show (8 : Nat) ≠ 0 by decide)
   | some f =>
    simp only at h ⊢
    obtain ⟨a1, a2, a3⟩ := shutF_prog h
    rw [a3]
    have h4 := exprF_prog (hs f rfl) _ a1
    have h5 := blanks_len ((exprF f (blanks (s.drop 1))).2.1.drop 1)
    rw [List.length_drop] at h5
    show (blanks _).length < _
    omega
  ·rw [if_neg h2] at h ⊢
   by_cases h3 : (opOf s).2 = [] ∧ stands [33] s = true
   ·rw [if_pos h3] at h ⊢
    have h4 := hd 1 (by decide) (stands_len h3.2)
    cases sub with
    | none => exact absurd h (show (8 : Nat) ≠ 0 by decide)
    | some f =>
     simp only at h ⊢
     obtain ⟨a1, a2⟩ := notF_prog h
     rw [a2]
     have h5 := hs f rfl _ a1
     show (f (blanks (s.drop 1))).2.1.length < _
     omega
   ·rw [if_neg h3] at h ⊢
    have h4 := ver_prog _ _ h
    have h5 := blanks_len (s.drop (opOf s).2.length)
    rw [List.length_drop] at h5
    omega
theorem pone_prog : ∀ k, Prog (pone k)
 | 0 => oneF_prog fun f h => by cases h
 | k + 1 => oneF_prog fun f h => by injection h with h; rw [← h]; exact pone_prog k
end Go.Proofs.YtgfbflnhjpbceaaGreatDoor.Range
namespace Go.Proofs.YtgfbflnhjpbceaaGreatDoor.Semver
open Go.RowKit Num Ident

def At7 (W : World) (b : Nat) (u0 u1 u2 u3 u4 u5 u6 : Value) : Prop := b < W.heap.size ∧ (∀ o, W.frozen? ⟨b, o, none⟩ = false) ∧ W.cell? ⟨b, 0, none⟩ = some u0 ∧ W.cell? ⟨b, 1, none⟩ = some u1 ∧ W.cell? ⟨b, 2, none⟩ = some u2 ∧ W.cell? ⟨b, 3, none⟩ = some u3 ∧ W.cell? ⟨b, 4, none⟩ = some u4 ∧ W.cell? ⟨b, 5, none⟩ = some u5 ∧ W.cell? ⟨b, 6, none⟩ = some u6
theorem At7.new (w : World) (t : TypeId) (u0 u1 u2 u3 u4 u5 u6 : Value) : At7 (w.alloc (.cells #[u0, u1, u2, u3, u4, u5, u6] t)) w.heap.size u0 u1 u2 u3 u4 u5 u6 := by
 unfold At7
 refine ⟨by simp, fun o => by simp [go_sem], ?_, ?_, ?_, ?_, ?_, ?_, ?_⟩ <;> simp [go_sem]
theorem At7.kept {W W' : World} {b B : Nat} {u0 u1 u2 u3 u4 u5 u6 : Value} (h : At7 W b u0 u1 u2 u3 u4 u5 u6) (hb : Below B W W') (hB : b < B) : At7 W' b u0 u1 u2 u3 u4 u5 u6 := by
 obtain ⟨h1, h2, c0, c1, c2, c3, c4, c5, c6⟩ := h
 exact ⟨Nat.lt_of_lt_of_le h1 hb.size, fun o => (hb.frozen (p := ⟨b, o, none⟩) hB).trans (h2 o), (hb.cell (p := ⟨b, 0, none⟩) hB).trans c0, (hb.cell (p := ⟨b, 1, none⟩) hB).trans c1, (hb.cell (p := ⟨b, 2, none⟩) hB).trans c2, (hb.cell (p := ⟨b, 3, none⟩) hB).trans c3, (hb.cell (p := ⟨b, 4, none⟩) hB).trans c4, (hb.cell (p := ⟨b, 5, none⟩) hB).trans c5, (hb.cell (p := ⟨b, 6, none⟩) hB).trans c6⟩
theorem set7 {w : World} {A : Option Addr} {n : Nat} {xs : List (List UInt8)} (h : SRow w A n xs) {b : Nat} {u0 u1 u2 u3 u4 u5 u6 : Value} (k : At7 w b u0 u1 u2 u3 u4 u5 u6)
  (s0 : ∀ s, u0 ≠ .string s) (s1 : ∀ s, u1 ≠ .string s) (s2 : ∀ s, u2 ≠ .string s) (s3 : ∀ s, u3 ≠ .string s) (s4 : ∀ s, u4 ≠ .string s) (s5 : ∀ s, u5 ≠ .string s) (s6 : ∀ s, u6 ≠ .string s) (v0 v1 v2 v3 v4 v5 v6 : Value) :
  SRow (((((((w.setCell ⟨b, 0, none⟩ v0).setCell ⟨b, 1, none⟩ v1).setCell ⟨b, 2, none⟩ v2).setCell ⟨b, 3, none⟩ v3).setCell ⟨b, 4, none⟩ v4).setCell ⟨b, 5, none⟩ v5).setCell ⟨b, 6, none⟩ v6) A n xs := by
 obtain ⟨_, _, c0, c1, c2, c3, c4, c5, c6⟩ := k
 refine SRow.set (SRow.set (SRow.set (SRow.set (SRow.set (SRow.set (SRow.set h c0 s0 v0) (u := u1) ?_ s1 v1) (u := u2) ?_ s2 v2) (u := u3) ?_ s3 v3) (u := u4) ?_ s4 v4) (u := u5) ?_ s5 v5) (u := u6) ?_ s6 v6
 ·exact (cell_beside _ _ _ _ _ (by omega)).trans (c1)
 ·exact (cell_beside _ _ _ _ _ (by omega)).trans ((cell_beside _ _ _ _ _ (by omega)).trans (c2))
 ·exact (cell_beside _ _ _ _ _ (by omega)).trans ((cell_beside _ _ _ _ _ (by omega)).trans ((cell_beside _ _ _ _ _ (by omega)).trans (c3)))
 ·exact (cell_beside _ _ _ _ _ (by omega)).trans ((cell_beside _ _ _ _ _ (by omega)).trans ((cell_beside _ _ _ _ _ (by omega)).trans ((cell_beside _ _ _ _ _ (by omega)).trans (c4))))
 ·exact (cell_beside _ _ _ _ _ (by omega)).trans ((cell_beside _ _ _ _ _ (by omega)).trans ((cell_beside _ _ _ _ _ (by omega)).trans ((cell_beside _ _ _ _ _ (by omega)).trans ((cell_beside _ _ _ _ _ (by omega)).trans (c5)))))
 ·exact (cell_beside _ _ _ _ _ (by omega)).trans ((cell_beside _ _ _ _ _ (by omega)).trans ((cell_beside _ _ _ _ _ (by omega)).trans ((cell_beside _ _ _ _ _ (by omega)).trans ((cell_beside _ _ _ _ _ (by omega)).trans ((cell_beside _ _ _ _ _ (by omega)).trans (c6))))))

theorem At3.set1 {W : World} {b : Nat} {x y z : Value} (h : At3 W b x y z) (v : Value) : At3 (W.setCell ⟨b, 1, none⟩ v) b x v z := by
 obtain ⟨h1, h2, c0, c1, c2⟩ := h
 refine ⟨by simpa using h1, fun o => by simp [go_sem, h2], ?_, ?_, ?_⟩ <;> simp [go_sem, c0, c1, c2]
theorem At3.set2 {W : World} {b : Nat} {x y z : Value} (h : At3 W b x y z) (v : Value) : At3 (W.setCell ⟨b, 2, none⟩ v) b x y v := by
 obtain ⟨h1, h2, c0, c1, c2⟩ := h
 refine ⟨by simpa using h1, fun o => by simp [go_sem, h2], ?_, ?_, ?_⟩ <;> simp [go_sem, c0, c1, c2]


end Go.Proofs.YtgfbflnhjpbceaaGreatDoor.Semver
namespace Go.Proofs.YtgfbflnhjpbceaaGreatDoor.Num
open Go.RowKit

theorem news_new (w : World) (L : List Value) (t : TypeId) : ∀ j u, L[j]? = some u → (w.alloc (.cells L.toArray t)).cell? ((⟨w.heap.size, 0, none⟩ : Addr).add j) = some u := by
 intro j u hu
 have hh : (w.alloc (.cells L.toArray t)).heap[w.heap.size]? = some (.cells L.toArray t) := by
  show (w.heap.push _)[w.heap.size]? = _
  simp
 rw [add_none, cell_of_row _ _ _ L.toArray t (0, 0) hh, Nat.zero_add]
 simpa using hu
theorem flat_get {α : Type} [Inhabited α] (f : α → List Value) (k : Nat) (hk : ∀ x, (f x).length = k) : ∀ (l : List α) (j i : Nat), j < l.length → i < k → (l.flatMap f)[j * k + i]? = (f (l.getD j default))[i]?
 | [], j, i, hj, _ => by simp at hj
 | x :: l, 0, i, _, hi => by
  rw [List.flatMap_cons, List.getElem?_append_left (by rw [hk]; omega)]; simp
 | x :: l, j + 1, i, hj, hi => by
  rw [List.flatMap_cons, List.getElem?_append_right (by rw [hk, Nat.succ_mul]; omega), hk, show (j + 1) * k + i - k = j * k + i by rw [Nat.succ_mul]; omega, flat_get f k hk l j i (by simpa using hj) hi]; simp
theorem flat_len {α : Type} (f : α → List Value) (k : Nat) (hk : ∀ x, (f x).length = k) : ∀ l : List α, (l.flatMap f).length = l.length * k
 | [] => by simp
 | x :: l => by rw [List.flatMap_cons, List.length_append, hk, flat_len f k hk l, List.length_cons, Nat.succ_mul]; omega
theorem flat_one {α : Type} (f : α → List Value) (h : ∀ x, ∀ u ∈ f x, u.oneCell' = true) (l : List α) : ∀ u ∈ l.flatMap f, u.oneCell' = true := by
 intro u hu; obtain ⟨x, _, hx⟩ := List.mem_flatMap.1 hu; exact h x u hx
theorem own_cells {α : Type} [Inhabited α] {f : α → List Value} {k : Nat} (hk : ∀ x, (f x).length = k) {w : World} {base : Nat} {e : TypeId} {v : Value} {n : Nat} {l : List α} (h : w.ownsRow base e k v n (l.flatMap f)) (hl : l.length = n) :
  ∃ A c, v = .slice A n c ∧ n ≤ c ∧ (A = none → c = 0) ∧ (0 < n → ∃ g, A = some ⟨g, 0, none⟩ ∧ base ≤ g ∧ g < w.heap.size ∧ (∀ o, w.frozen? ⟨g, o, none⟩ = false) ∧ ∀ j, j < n → ∀ i u, (f (l.getD j default))[i]? = some u → w.cell? ⟨g, 0 + j * k + i, none⟩ = some u) := by
 have hcs := fun g => h.cells (g := g)
 rcases h.2 with ⟨rfl, rfl⟩ | ⟨g, cap, cur, rfl, hg0, hg, hnc, hcm, _, _⟩
 ·exact ⟨none, 0, rfl, Nat.le_refl _, fun _ => rfl, fun h0 => by omega⟩
 ·refine ⟨_, cap, rfl, hnc, (fun e => by cases e), fun h0 => ⟨g, rfl, hg0, (Array.getElem?_eq_some_iff.1 hg).1, fun o => ?_, fun j hj i u hu => ?_⟩⟩
  ·simp [World.frozen?, hg]
  ·have hi : i < k := by have := (List.getElem?_eq_some_iff.1 hu).1; rwa [hk] at this
   have := hcs g rfl (j * k + i) u (by rw [flat_get f k hk l j i (by omega) hi]; exact hu)
   rw [add_none] at this
   rw [Nat.add_assoc]; exact this
theorem own_apart {w : World} {B1 B2 : Nat} {e1 e2 : TypeId} {k1 k2 : Nat} {v1 v2 : Value} {n1 n2 : Nat} {x1 x2 : List Value} (h1 : w.ownsRow B1 e1 k1 v1 n1 x1) (h2 : w.ownsRow B2 e2 k2 v2 n2 x2) (hne : e1 ≠ e2) : v1.ownBlock = none ∨ v1.ownBlock ≠ v2.ownBlock := by
 rcases h1.2 with ⟨rfl, _⟩ | ⟨g1, c1, u1, rfl, _, hg1, _⟩
 ·exact .inl rfl
 ·right
  rcases h2.2 with ⟨rfl, _⟩ | ⟨g2, c2, u2, rfl, _, hg2, _⟩
  ·intro h; cases h
  ·intro h
   have e : g1 = g2 := by simpa [Value.ownBlock] using h
   subst e
   rw [hg1] at hg2
   injection hg2 with hg2
   injection hg2 with _ h
   exact hne h

end Go.Proofs.YtgfbflnhjpbceaaGreatDoor.Num
