/-
  What the theorem of the last text needs of these: RgProg, SvMem, SvEq, SvSame, IdByte, IdNumeric. Conditions: as each theorem states.
-/
import Derived.Test.YtgfbflnhjpbceaaGreatDoorHasB1
import Derived.Test.YtgfbflnhjpbceaaGreatDoorHasB2
import Derived.Test.YtgfbflnhjpbceaaGreatDoorChecked
import Derived.WalkKit
import Derived.ChangeKeysEq
import Derived.Laws.StructEq
import Derived.StillTailTactics
import Derived.Deep.CutBlock
import Derived.Deep.DeepCutAuto
import Derived.Deep.RegionHeld3
set_option maxRecDepth 100000
set_option maxHeartbeats 25600000
namespace Go.Proofs.YtgfbflnhjpbceaaGreatDoor.Range
open Num Ident Semver

theorem stands_nil (s : List UInt8) : stands [] s = true := by cases s <;> rfl
theorem stands_split {t s : List UInt8} (h : stands t s = true) : s = t ++ s.drop t.length := by
 unfold stands at h
 obtain ⟨u, rfl⟩ := List.isPrefixOf_iff_prefix.1 h
 simp
theorem stands_len {t s : List UInt8} (h : stands t s = true) : t.length ≤ s.length := by
 rw [stands_split h]; simp
theorem blanks_drop (s : List UInt8) : ∃ k, k ≤ s.length ∧ blanks s = s.drop k := by
 induction s with
 | nil => exact ⟨0, by simp, rfl⟩
 | cons b s ih =>
  rw [blanks]
  split
  ·obtain ⟨k, h1, h2⟩ := ih
   exact ⟨k + 1, by simpa using h1, by rw [h2]; rfl⟩
  ·exact ⟨0, by simp, rfl⟩
theorem blanks_len (s : List UInt8) : (blanks s).length ≤ s.length := by
 obtain ⟨k, _, h⟩ := blanks_drop s
 rw [h, List.length_drop]; omega
theorem blanks_yes {b : UInt8} (s : List UInt8) (h : blankB b = true) : blanks (b :: s) = blanks s := by rw [blanks, if_pos h]
theorem blanks_no {b : UInt8} (s : List UInt8) (h : blankB b = false) : blanks (b :: s) = b :: s := by rw [blanks, h]; simp
theorem lackN_ne (s : List UInt8) : lackN s ≠ 0 := by unfold lackN; split <;> decide
def Piece (s' s : List UInt8) : Prop := ∃ k, s' = s.drop k
theorem Piece.refl (s : List UInt8) : Piece s s := ⟨0, rfl⟩
theorem Piece.trans {a b c : List UInt8} (h : Piece a b) (k : Piece b c) : Piece a c := by
 obtain ⟨i, rfl⟩ := h
 obtain ⟨j, rfl⟩ := k
 exact ⟨j + i, by rw [List.drop_drop]⟩
theorem Piece.drop (s : List UInt8) (k : Nat) : Piece (s.drop k) s := ⟨k, rfl⟩
theorem Piece.blanks (s : List UInt8) : Piece (blanks s) s := by
 obtain ⟨k, _, h⟩ := blanks_drop s
 exact ⟨k, h⟩
theorem Piece.len {a b : List UInt8} (h : Piece a b) : a.length ≤ b.length := by
 obtain ⟨k, rfl⟩ := h; rw [List.length_drop]; omega
def Prog (pf : List UInt8 → Out) : Prop := ∀ s, (pf s).1 = 0 → (pf s).2.1.length < s.length
def Falls (ff : List UInt8 → Option (List UInt8)) : Prop := ∀ s s', ff s = some s' → s'.length ≤ s.length
def Pieces (pf : List UInt8 → Out) : Prop := ∀ s, Piece (pf s).2.1 s
def PiecesF (ff : List UInt8 → Option (List UInt8)) : Prop := ∀ s s', ff s = some s' → Piece s' s
theorem furE_piece : PiecesF furE := by
 intro s s' h
 unfold furE at h
 split at h
 ·injection h with h; rw [← h]; exact (Piece.blanks _).trans (Piece.drop _ _)
 ·cases h
theorem furO_piece : PiecesF furO := by
 intro s s' h
 unfold furO at h
 split at h
 ·injection h with h; rw [← h]; exact (Piece.blanks _).trans (Piece.drop _ _)
 ·split at h
  ·injection h with h; rw [← h]; exact Piece.refl _
  ·cases h
theorem PiecesF.falls {ff : List UInt8 → Option (List UInt8)} (h : PiecesF ff) : Falls ff := fun s s' e => (h s s' e).len
theorem sev_bad {pf : List UInt8 → Out} {ff : List UInt8 → Option (List UInt8)} {kind : Int} {n : Nat} {acc : List Rng} {s : List UInt8} (h : (pf s).1 ≠ 0) : sev pf ff kind (n + 1) acc s = ((pf s).1, (pf s).2.1, noRng) := by rw [sev, if_pos h]
theorem sev_on {pf : List UInt8 → Out} {ff : List UInt8 → Option (List UInt8)} {kind : Int} {n : Nat} {acc : List Rng} {s s' : List UInt8} (h : (pf s).1 = 0) (hf : ff (pf s).2.1 = some s') : sev pf ff kind (n + 1) acc s = sev pf ff kind n (acc ++ [(pf s).2.2]) s' := by
 rw [sev, if_neg (by simp [h]), hf]
theorem sev_end {pf : List UInt8 → Out} {ff : List UInt8 → Option (List UInt8)} {kind : Int} {n : Nat} {acc : List Rng} {s : List UInt8} (h : (pf s).1 = 0) (hf : ff (pf s).2.1 = none) : sev pf ff kind (n + 1) acc s = (0, (pf s).2.1, whole kind acc (pf s).2.2) := by
 rw [sev, if_neg (by simp [h]), hf]
theorem sev_prog {pf : List UInt8 → Out} {ff : List UInt8 → Option (List UInt8)} {kind : Int} (hp : Prog pf) (hf : Falls ff) : ∀ (n : Nat) (acc : List Rng) (s : List UInt8), (sev pf ff kind n acc s).1 = 0 → (sev pf ff kind n acc s).2.1.length < s.length
 | 0, _, _, h => by rw [sev] at h; exact absurd h (by simp)
 | n + 1, acc, s, h => by
  by_cases h0 : (pf s).1 = 0
  ·have h1 := hp s h0
   cases h2 : ff (pf s).2.1 with
   | some s' =>
    rw [sev_on h0 h2] at h ⊢
    have := sev_prog hp hf n _ s' h
    have := hf _ _ h2
    omega
   | none => rw [sev_end h0 h2]; exact h1
  ·rw [sev_bad h0] at h; exact absurd h h0
theorem sev_piece {pf : List UInt8 → Out} {ff : List UInt8 → Option (List UInt8)} {kind : Int} (hp : Pieces pf) (hf : PiecesF ff) : ∀ (n : Nat) (acc : List Rng) (s : List UInt8), Piece (sev pf ff kind n acc s).2.1 s
 | 0, _, _ => Piece.refl _
 | n + 1, acc, s => by
  by_cases h0 : (pf s).1 = 0
  ·cases h2 : ff (pf s).2.1 with
   | some s' => rw [sev_on h0 h2]; exact ((sev_piece hp hf n _ s').trans (hf _ _ h2)).trans (hp s)
   | none => rw [sev_end h0 h2]; exact hp s
  ·rw [sev_bad h0]; exact hp s
theorem everyF_prog {pf : List UInt8 → Out} (h : Prog pf) : Prog (everyF pf) := fun s => sev_prog h furO_piece.falls _ _ s
theorem exprF_prog {pf : List UInt8 → Out} (h : Prog pf) : Prog (exprF pf) := fun s => sev_prog (everyF_prog h) furE_piece.falls _ _ s
theorem everyF_piece {pf : List UInt8 → Out} (h : Pieces pf) : Pieces (everyF pf) := fun s => sev_piece h furO_piece _ _ s
theorem exprF_piece {pf : List UInt8 → Out} (h : Pieces pf) : Pieces (exprF pf) := fun s => sev_piece (everyF_piece h) furE_piece _ _ s
theorem ver_piece (kind : Int) : Pieces (verAt kind) := by
 intro s
 unfold verAt
 split
 ·split
  ·exact Piece.drop _ _
  ·exact (Piece.blanks _).trans (Piece.drop _ _)
 ·exact Piece.refl _
theorem shutF_piece {t : Out} {s : List UInt8} (h : Piece t.2.1 s) : Piece (shutF t).2.1 s := by
 unfold shutF
 split
 ·exact h
 ·split
  ·exact ((Piece.blanks _).trans (Piece.drop _ _)).trans h
  ·exact h
theorem notF_piece {t : Out} {s : List UInt8} (h : Piece t.2.1 s) : Piece (notF t).2.1 s := by
 unfold notF; split <;> exact h
theorem oneF_piece {sub : Option (List UInt8 → Out)} (h : ∀ f, sub = some f → Pieces f) : Pieces (oneF sub) := by
 intro s
 have hd : ∀ k, Piece (blanks (s.drop k)) s := fun k => (Piece.blanks _).trans (Piece.drop _ _)
 unfold oneF
 split
 ·exact hd 1
 ·split
  ·cases sub with
   | none => exact Piece.refl _
   | some f => exact shutF_piece ((exprF_piece (h f rfl) _).trans (hd 1))
  ·split
   ·cases sub with
    | none => exact Piece.refl _
    | some f => exact notF_piece ((h f rfl _).trans (hd 1))
   ·exact (ver_piece _ _).trans (hd _)
theorem pone_piece : ∀ k, Pieces (pone k)
 | 0 => oneF_piece fun f h => by cases h
 | k + 1 => oneF_piece fun f h => by injection h with h; rw [← h]; exact pone_piece k
theorem oneOf_cons {some s : List UInt8} (h : oneOf some s = true) : ∃ b r, s = b :: r ∧ b ∈ some := by
 cases s with
 | nil => cases h
 | cons b r => exact ⟨b, r, rfl, of_decide_eq_true h⟩
theorem core2_ge {l : List UInt8} {x y p : Nat} (h : (core2 l x y p).1 = 0) : p ≤ (core2 l x y p).2.1 := by
 unfold core2 at h ⊢
 by_cases h0 : (parse l p).2.2 ≠ 0
 ·rw [if_pos h0] at h; exact absurd h h0
 ·rw [if_neg h0]; exact Nat.le_add_right _ _
theorem after2_gt {l : List UInt8} {x y q : Nat} (h : (after2 l x y q).1 = 0) : q < (after2 l x y q).2.1 := by
 unfold after2 at h ⊢
 by_cases h0 : point l q ≠ 0
 ·rw [if_pos h0] at h; exact absurd h h0
 ·rw [if_neg h0] at h ⊢; exact core2_ge h
theorem core1_ge {l : List UInt8} {x p : Nat} (h : (core1 l x p).1 = 0) : p ≤ (core1 l x p).2.1 := by
 unfold core1 at h ⊢
 by_cases h0 : (parse l p).2.2 ≠ 0
 ·rw [if_pos h0] at h; exact absurd h h0
 ·rw [if_neg h0] at h ⊢; have := after2_gt h; omega
theorem after1_gt {l : List UInt8} {x q : Nat} (h : (after1 l x q).1 = 0) : q < (after1 l x q).2.1 := by
 unfold after1 at h ⊢
 by_cases h0 : point l q ≠ 0
 ·rw [if_pos h0] at h; exact absurd h h0
 ·rw [if_neg h0] at h ⊢; exact core1_ge h
theorem core_gt {l : List UInt8} {p : Nat} (h : (core l p).1 = 0) : p < (core l p).2.1 := by
 unfold core at h ⊢
 by_cases h0 : (parse l p).2.2 ≠ 0
 ·rw [if_pos h0] at h; exact absurd h h0
 ·rw [if_neg h0] at h ⊢; have := after1_gt h; omega
theorem rowAt_ge (l : List UInt8) (p m : Nat) : p ≤ (Semver.rowAt l p m).2.1 := by
 unfold Semver.rowAt; split
 ·exact Nat.le_refl _
 ·show p ≤ p + 1 + _; omega
theorem inside_gt {l : List UInt8} {p : Nat} (h : (inside l p).1 = 0) : p < (inside l p).2.1 := by
 unfold inside at h ⊢
 by_cases h0 : (core l p).1 ≠ 0
 ·rw [if_pos h0] at h; exact absurd h h0
 ·rw [if_neg h0] at h ⊢
  have h1 := core_gt (l := l) (p := p) (by simpa using h0)
  unfold tail1 at h ⊢
  have h2 := rowAt_ge l (core l p).2.1 45
  by_cases h3 : (Semver.rowAt l (core l p).2.1 45).1 ≠ 0
  ·rw [if_pos h3] at h; exact absurd h h3
  ·rw [if_neg h3] at h ⊢
   unfold tail2 at h ⊢
   have h4 := rowAt_ge l (Semver.rowAt l (core l p).2.1 45).2.1 43
   split
   ·rename_i h5; rw [if_pos h5] at h; exact absurd h h5
   ·show p < (Semver.rowAt l (Semver.rowAt l (core l p).2.1 45).2.1 43).2.1; omega
theorem vparse_gt {l : List UInt8} (h : (vparse l 0).1 = 0) : 0 < (vparse l 0).2.1 := by
 unfold vparse at h ⊢
 rw [if_neg (by omega), Int.toNat_zero] at h ⊢
 exact inside_gt h
theorem ver_prog (kind : Int) : Prog (verAt kind) := by
 intro s h
 unfold verAt at h ⊢
 by_cases h0 : oneOf digits s = true
 ·obtain ⟨b, r, rfl, _⟩ := oneOf_cons h0
  rw [if_pos h0] at h ⊢
  by_cases h1 : (vparse (b :: r) 0).1 ≠ 0
  ·rw [if_pos h1] at h; exact absurd h h1
  ·rw [if_neg h1]
   have h2 := vparse_gt (l := b :: r) (by simpa using h1)
   have h3 := blanks_len ((b :: r).drop (vparse (b :: r) 0).2.1)
   simp only [List.length_drop, List.length_cons] at h3 ⊢
   omega
 ·rw [if_neg h0] at h; exact absurd h (lackN_ne s)
theorem shutF_prog {t : Out} (h : (shutF t).1 = 0) : t.1 = 0 ∧ stands [41] t.2.1 = true ∧ shutF t = (0, blanks (t.2.1.drop 1), t.2.2) := by
 unfold shutF at h ⊢
 by_cases h0 : t.1 ≠ 0
 ·rw [if_pos h0] at h; exact absurd h h0
 ·rw [if_neg h0] at h ⊢
  by_cases h1 : stands [41] t.2.1 = true
  ·exact ⟨by simpa using h0, h1, by rw [if_pos h1]⟩
  ·rw [if_neg h1] at h; exact absurd h (lackN_ne _)
theorem notF_prog {t : Out} (h : (notF t).1 = 0) : t.1 = 0 ∧ notF t = (0, t.2.1, .mk 11 noVer [t.2.2]) := by
 unfold notF at h ⊢
 by_cases h0 : t.1 ≠ 0
 ·rw [if_pos h0] at h; exact absurd h h0
 ·rw [if_neg h0]; exact ⟨by simpa using h0, rfl⟩
theorem oneF_prog {sub : Option (List UInt8 → Out)} (hs : ∀ f, sub = some f → Prog f) : Prog (oneF sub) := by
 intro s h
 have hd : ∀ k, 0 < k → k ≤ s.length → (blanks (s.drop k)).length < s.length := fun k h0 hk => by
  have := blanks_len (s.drop k); rw [List.length_drop] at this; omega
 unfold oneF at h ⊢
 by_cases h1 : stands [42] s = true
 ·rw [if_pos h1]; exact hd 1 (by decide) (stands_len h1)
 ·rw [if_neg h1] at h ⊢
  by_cases h2 : stands [40] s = true
  ·rw [if_pos h2] at h ⊢
   have h3 := hd 1 (by decide) (stands_len h2)
   cases sub with
   | none => exact absurd h (show (8 : Nat) ≠ 0 by decide)
   | some f =>
    simp only at h ⊢
    obtain ⟨a1, a2, a3⟩ := shutF_prog h
    rw [a3]
    have h4 := exprF_prog (hs f rfl) _ a1
    have h5 := blanks_len ((exprF f (blanks (s.drop 1))).2.1.drop 1)
    rw [List.length_drop] at h5
    show (blanks _).length < _
    omega
  ·rw [if_neg h2] at h ⊢
   by_cases h3 : (opOf s).2 = [] ∧ stands [33] s = true
   ·rw [if_pos h3] at h ⊢
    have h4 := hd 1 (by decide) (stands_len h3.2)
    cases sub with
    | none => exact absurd h (show (8 : Nat) ≠ 0 by decide)
    | some f =>
     simp only at h ⊢
     obtain ⟨a1, a2⟩ := notF_prog h
     rw [a2]
     have h5 := hs f rfl _ a1
     show (f (blanks (s.drop 1))).2.1.length < _
     omega
   ·rw [if_neg h3] at h ⊢
    have h4 := ver_prog _ _ h
    have h5 := blanks_len (s.drop (opOf s).2.length)
    rw [List.length_drop] at h5
    omega
theorem pone_prog : ∀ k, Prog (pone k)
 | 0 => oneF_prog fun f h => by cases h
 | k + 1 => oneF_prog fun f h => by injection h with h; rw [← h]; exact pone_prog k
end Go.Proofs.YtgfbflnhjpbceaaGreatDoor.Range
namespace Go.Proofs.YtgfbflnhjpbceaaGreatDoor.Semver
open Go.RowKit Num Ident

def At7 (W : World) (b : Nat) (u0 u1 u2 u3 u4 u5 u6 : Value) : Prop := b < W.heap.size ∧ (∀ o, W.frozen? ⟨b, o, none⟩ = false) ∧ W.cell? ⟨b, 0, none⟩ = some u0 ∧ W.cell? ⟨b, 1, none⟩ = some u1 ∧ W.cell? ⟨b, 2, none⟩ = some u2 ∧ W.cell? ⟨b, 3, none⟩ = some u3 ∧ W.cell? ⟨b, 4, none⟩ = some u4 ∧ W.cell? ⟨b, 5, none⟩ = some u5 ∧ W.cell? ⟨b, 6, none⟩ = some u6
theorem At7.new (w : World) (t : TypeId) (u0 u1 u2 u3 u4 u5 u6 : Value) : At7 (w.alloc (.cells #[u0, u1, u2, u3, u4, u5, u6] t)) w.heap.size u0 u1 u2 u3 u4 u5 u6 := by
 unfold At7
 refine ⟨by simp, fun o => by simp [go_sem], ?_, ?_, ?_, ?_, ?_, ?_, ?_⟩ <;> simp [go_sem]
theorem At7.kept {W W' : World} {b B : Nat} {u0 u1 u2 u3 u4 u5 u6 : Value} (h : At7 W b u0 u1 u2 u3 u4 u5 u6) (hb : Below B W W') (hB : b < B) : At7 W' b u0 u1 u2 u3 u4 u5 u6 := by
 obtain ⟨h1, h2, c0, c1, c2, c3, c4, c5, c6⟩ := h
 exact ⟨Nat.lt_of_lt_of_le h1 hb.size, fun o => (hb.frozen (p := ⟨b, o, none⟩) hB).trans (h2 o), (hb.cell (p := ⟨b, 0, none⟩) hB).trans c0, (hb.cell (p := ⟨b, 1, none⟩) hB).trans c1, (hb.cell (p := ⟨b, 2, none⟩) hB).trans c2, (hb.cell (p := ⟨b, 3, none⟩) hB).trans c3, (hb.cell (p := ⟨b, 4, none⟩) hB).trans c4, (hb.cell (p := ⟨b, 5, none⟩) hB).trans c5, (hb.cell (p := ⟨b, 6, none⟩) hB).trans c6⟩
theorem set7 {w : World} {A : Option Addr} {n : Nat} {xs : List (List UInt8)} (h : SRow w A n xs) {b : Nat} {u0 u1 u2 u3 u4 u5 u6 : Value} (k : At7 w b u0 u1 u2 u3 u4 u5 u6)
  (s0 : ∀ s, u0 ≠ .string s) (s1 : ∀ s, u1 ≠ .string s) (s2 : ∀ s, u2 ≠ .string s) (s3 : ∀ s, u3 ≠ .string s) (s4 : ∀ s, u4 ≠ .string s) (s5 : ∀ s, u5 ≠ .string s) (s6 : ∀ s, u6 ≠ .string s) (v0 v1 v2 v3 v4 v5 v6 : Value) :
  SRow (((((((w.setCell ⟨b, 0, none⟩ v0).setCell ⟨b, 1, none⟩ v1).setCell ⟨b, 2, none⟩ v2).setCell ⟨b, 3, none⟩ v3).setCell ⟨b, 4, none⟩ v4).setCell ⟨b, 5, none⟩ v5).setCell ⟨b, 6, none⟩ v6) A n xs := by
 obtain ⟨_, _, c0, c1, c2, c3, c4, c5, c6⟩ := k
 refine SRow.set (SRow.set (SRow.set (SRow.set (SRow.set (SRow.set (SRow.set h c0 s0 v0) (u := u1) ?_ s1 v1) (u := u2) ?_ s2 v2) (u := u3) ?_ s3 v3) (u := u4) ?_ s4 v4) (u := u5) ?_ s5 v5) (u := u6) ?_ s6 v6
 ·exact (cell_beside _ _ _ _ _ (by omega)).trans (c1)
 ·exact (cell_beside _ _ _ _ _ (by omega)).trans ((cell_beside _ _ _ _ _ (by omega)).trans (c2))
 ·exact (cell_beside _ _ _ _ _ (by omega)).trans ((cell_beside _ _ _ _ _ (by omega)).trans ((cell_beside _ _ _ _ _ (by omega)).trans (c3)))
 ·exact (cell_beside _ _ _ _ _ (by omega)).trans ((cell_beside _ _ _ _ _ (by omega)).trans ((cell_beside _ _ _ _ _ (by omega)).trans ((cell_beside _ _ _ _ _ (by omega)).trans (c4))))
 ·exact (cell_beside _ _ _ _ _ (by omega)).trans ((cell_beside _ _ _ _ _ (by omega)).trans ((cell_beside _ _ _ _ _ (by omega)).trans ((cell_beside _ _ _ _ _ (by omega)).trans ((cell_beside _ _ _ _ _ (by omega)).trans (c5)))))
 ·exact (cell_beside _ _ _ _ _ (by omega)).trans ((cell_beside _ _ _ _ _ (by omega)).trans ((cell_beside _ _ _ _ _ (by omega)).trans ((cell_beside _ _ _ _ _ (by omega)).trans ((cell_beside _ _ _ _ _ (by omega)).trans ((cell_beside _ _ _ _ _ (by omega)).trans (c6))))))

theorem At3.set1 {W : World} {b : Nat} {x y z : Value} (h : At3 W b x y z) (v : Value) : At3 (W.setCell ⟨b, 1, none⟩ v) b x v z := by
 obtain ⟨h1, h2, c0, c1, c2⟩ := h
 refine ⟨by simpa using h1, fun o => by simp [go_sem, h2], ?_, ?_, ?_⟩ <;> simp [go_sem, c0, c1, c2]
theorem At3.set2 {W : World} {b : Nat} {x y z : Value} (h : At3 W b x y z) (v : Value) : At3 (W.setCell ⟨b, 2, none⟩ v) b x y v := by
 obtain ⟨h1, h2, c0, c1, c2⟩ := h
 refine ⟨by simpa using h1, fun o => by simp [go_sem, h2], ?_, ?_, ?_⟩ <;> simp [go_sem, c0, c1, c2]


end Go.Proofs.YtgfbflnhjpbceaaGreatDoor.Semver
namespace Go.Proofs.YtgfbflnhjpbceaaGreatDoor.Semver
open Go.RowKit

theorem run_eq3 (n0 n1 n2 m0 m1 m2 : Int) (w : World) :
  (Op.equalIn 10000 99 (.agg #[.int .u64 n0, .int .u64 n1, .int .u64 n2]) (.agg #[.int .u64 m0, .int .u64 m1, .int .u64 m2])).run Tryz.prog w = .ok (n0 == m0 && (n1 == m1 && n2 == m2)) w := by
 obtain ⟨i, hi⟩ := Option.isSome_iff_exists.1 (show (Tryz.prog.info? 22).isSome = true by kernel_rfl)
 have hc : Tryz.prog.cellsOf 22 = 1 := by kernel_rfl
 have hp : Tryz.prog.plainKey 22 = true := by kernel_rfl
 have q0 := run_part_plain (P := Tryz.prog) w hp (xs := #[.int .u64 n0, .int .u64 n1, .int .u64 n2]) (off := 0) rfl
 have q1 := run_part_plain (P := Tryz.prog) w hp (xs := #[.int .u64 n0, .int .u64 n1, .int .u64 n2]) (off := 1) rfl
 have q2 := run_part_plain (P := Tryz.prog) w hp (xs := #[.int .u64 n0, .int .u64 n1, .int .u64 n2]) (off := 2) rfl
 have p0 := run_part_plain (P := Tryz.prog) w hp (xs := #[.int .u64 m0, .int .u64 m1, .int .u64 m2]) (off := 0) rfl
 have p1 := run_part_plain (P := Tryz.prog) w hp (xs := #[.int .u64 m0, .int .u64 m1, .int .u64 m2]) (off := 1) rfl
 have p2 := run_part_plain (P := Tryz.prog) w hp (xs := #[.int .u64 m0, .int .u64 m1, .int .u64 m2]) (off := 2) rfl
 have e := fun a b : Int => run_equalIn_int (P := Tryz.prog) w 9998 22 .u64 .u64 a b Tryz.underlying22
 rw [run_equalIn_array w 9999 _ _ Tryz.underlying99 hi, hc, show List.range 3 = [0, 1, 2] from rfl]
 simp only [Op.eqItems, Sem.run_bind, Nat.mul_one, q0, p0, Result.andThen_ok]
 cases h0 : n0 == m0 <;> cases h1 : n1 == m1 <;> cases h2 : n2 == m2 <;> simp [q1, q2, p1, p2, e, h0, h1, h2]
end Go.Proofs.YtgfbflnhjpbceaaGreatDoor.Semver
namespace Go.Proofs.YtgfbflnhjpbceaaGreatDoor.Semver
open Go.RowKit Num Ident

theorem equal_any (A : Option Addr) (a ca : Nat) (xs : List (List UInt8)) (B : Option Addr) (b cb : Nat) (ys : List (List UInt8)) (w : World) (hA : SRow w A a xs) (hB : SRow w B b ys) (ha : a ≤ maxLen) (hb : b ≤ maxLen) :
  Calls Tryz.prog 92 #[.slice A a ca, .slice B b cb] w fun e w' => e = .returned (.bool (sameB xs ys)) ∧ Below w.heap.size w w' := by
 unfold maxLen at ha hb
 have HA := Lib.hid hA
 have HB := Lib.hid hB
 have HLA := Lib.hid hA.1
 have HLB := Lib.hid hB.1
 clear hA hB
 by_cases hab : a = b
 ·subst hab
  go_enter Tryz.func92, Tryz.ntmps92
  go_wp2
  go_loopw [13] (fun i W => ∃ k : Nat, k ≤ a ∧ i = .int .i64 k ∧ Hid (∀ j, j < k → xs.getD j [] = ys.getD j []) ∧ Hid (Below w.heap.size w W)) (fun i _ => a - (intOf i).toNat)
  case atStart => exact ⟨0, Nat.zero_le _, rfl, (fun j hj => by omega), Below.refl _ _⟩
  case round =>
   obtain ⟨k, hk, rfl, HD, HW⟩ := hrel
   by_cases hlt : k < a
   ·obtain ⟨g1, o1, rfl, hg1, hc1⟩ := (HA.out.kept HW.out).2 (by omega)
    obtain ⟨g2, o2, rfl, hg2, hc2⟩ := (HB.out.kept HW.out).2 (by omega)
    have hx1 := hc1 k hlt
    have hx2 := hc2 k hlt
    clear hc1 hc2
    obtain ⟨s, hs⟩ : ∃ s, mk (xs.getD k []) = s := ⟨_, rfl⟩
    obtain ⟨t, ht⟩ : ∃ t, mk (ys.getD k []) = t := ⟨_, rfl⟩
    have HS : Hid (s = t → xs.getD k [] = ys.getD k []) := fun h => by rw [← hs, ← ht] at h; have := congrArg (fun z : ByteArray => z.data.toList) h; exact this
    have HS2 : Hid (s ≠ t → xs ≠ ys) := fun h h2 => h (by rw [← hs, ← ht, h2])
    rw [hs] at hx1
    rw [ht] at hx2
    clear hs ht
    by_cases hst : s = t
    ·have HS3 := Lib.hid (HS.out hst)
     subst hst
     have hq : (s.toList == s.toList) = true := by simp
     have hq2 : (s.toList != s.toList) = false := by simp
     go_wp2
     go_still (by kernel_rfl)
     have HW2 := Lib.hid HW.out.drew
     go_wp2
     refine ⟨⟨k + 1, by omega, by go_num, (fun j hj => ?_), HW2.out⟩, by simp [intOf]; omega⟩
     rcases Nat.lt_or_ge j k with hj1 | hj1
     ·exact HD.out j hj1
     ·obtain rfl : j = k := by omega
      exact HS3.out
    ·have HS3 := Lib.hid (HS2.out hst)
     have hq : (s.toList == t.toList) = false := by
      rw [Lib.toList_data, Lib.toList_data, beq_eq_false_iff_ne]
      exact fun h => hst (by have := congrArg mk h; exact this)
     have hq2 : (s.toList != t.toList) = true := by rw [bne, hq]; rfl
     clear hst
     go_wp2
     go_still (by kernel_rfl)
     have HW2 := Lib.hid HW.out.drew
     go_wp2
     go_ret
     exact ⟨by rw [sameB_no HS3.out]; rfl, HW2.out⟩
   ·have HF : Hid (sameB xs ys = true) := (sameB_iff xs ys).2 (List.ext_getElem (by rw [HLA.out, HLB.out]) fun j h1 h2 => by
     have := HD.out j (by rw [HLA.out] at h1; omega)
     simpa [List.getD, List.getElem?_eq_getElem h1, List.getElem?_eq_getElem h2] using this)
    go_wp2
    go_ret
    exact ⟨by rw [HF.out]; rfl, HW.out⟩
 ·have HF : Hid (sameB xs ys = false) := sameB_no fun h => hab (by rw [← HLA.out, ← HLB.out, h])
  have hq : ((a : Int) == (b : Int)) = false := by simp; omega
  have hq2 : ((a : Int) != (b : Int)) = true := by simp; omega
  go_enter Tryz.func92, Tryz.ntmps92
  go_wp2
  go_ret
  exact ⟨by rw [HF.out]; rfl, Below.refl _ _⟩
theorem coreOf_any (a b c : Int) (x y : Value) (w : World) :
  Calls Tryz.prog 71 #[.agg #[.int .u64 a, .int .u64 b, .int .u64 c, x, y]] w fun e w' => e = .returned (.agg #[.int .u64 a, .int .u64 b, .int .u64 c]) ∧ Below w.heap.size w w' := by
 go_enter Tryz.func71, Tryz.ntmps71
 go_wp2
 exact bodyPost_ret (v := .agg #[.int .u64 a, .int .u64 b, .int .u64 c]) (by simp [results, Tryz.results71, go_sem]) rfl ⟨rfl, ((Below.refl _ _).alloc (Nat.le_refl _) _).alloc (by simp) _⟩
theorem same_parts (A1 : Option Addr) (a1 c1 : Nat) (xs1 : List (List UInt8)) (A2 : Option Addr) (a2 c2 : Nat) (xs2 : List (List UInt8)) (B1 : Option Addr) (b1 d1 : Nat) (ys1 : List (List UInt8)) (B2 : Option Addr) (b2 d2 : Nat) (ys2 : List (List UInt8)) (n0 n1 n2 m0 m1 m2 : Nat) (w : World)
  (r1 : SRow w A1 a1 xs1) (r2 : SRow w A2 a2 xs2) (q1 : SRow w B1 b1 ys1) (q2 : SRow w B2 b2 ys2) (ha1 : a1 ≤ maxLen) (ha2 : a2 ≤ maxLen) (hb1 : b1 ≤ maxLen) (hb2 : b2 ≤ maxLen) :
  Calls Tryz.prog 56 #[.agg #[.int .u64 (n0 : Int), .int .u64 (n1 : Int), .int .u64 (n2 : Int), .slice A1 a1 c1, .slice A2 a2 c2], .agg #[.int .u64 (m0 : Int), .int .u64 (m1 : Int), .int .u64 (m2 : Int), .slice B1 b1 d1, .slice B2 b2 d2]] w fun e w' => e = .returned (.bool (sameV ⟨n0, n1, n2, xs1, xs2⟩ ⟨m0, m1, m2, ys1, ys2⟩)) ∧ Below w.heap.size w w' := by
 have R1 := Lib.hid r1
 have R2 := Lib.hid r2
 have Q1 := Lib.hid q1
 have Q2 := Lib.hid q2
 have HA1 := Lib.hid ha1
 have HA2 := Lib.hid ha2
 have HB1 := Lib.hid hb1
 have HB2s := Lib.hid hb2
 clear r1 r2 q1 q2 ha1 ha2 hb1 hb2
 have HB0 : Hid (Below w.heap.size w ((w.alloc (.cells #[.int .u64 (n0 : Int), .int .u64 (n1 : Int), .int .u64 (n2 : Int), .slice A1 a1 c1, .slice A2 a2 c2] 25)).alloc (.cells #[.int .u64 (m0 : Int), .int .u64 (m1 : Int), .int .u64 (m2 : Int), .slice B1 b1 d1, .slice B2 b2 d2] 25))) := ((Below.refl _ _).alloc (Nat.le_refl _) _).alloc (by simp) _
 have HP1 : Hid (At5 ((w.alloc (.cells #[.int .u64 (n0 : Int), .int .u64 (n1 : Int), .int .u64 (n2 : Int), .slice A1 a1 c1, .slice A2 a2 c2] 25)).alloc (.cells #[.int .u64 (m0 : Int), .int .u64 (m1 : Int), .int .u64 (m2 : Int), .slice B1 b1 d1, .slice B2 b2 d2] 25)) w.heap.size (.int .u64 (n0 : Int)) (.int .u64 (n1 : Int)) (.int .u64 (n2 : Int)) (.slice A1 a1 c1) (.slice A2 a2 c2)) := (At5.new w 25 _ _ _ _ _).kept ((Below.refl _ _).alloc (Nat.le_refl _) _) (by simp)
 have HP2 : Hid (At5 ((w.alloc (.cells #[.int .u64 (n0 : Int), .int .u64 (n1 : Int), .int .u64 (n2 : Int), .slice A1 a1 c1, .slice A2 a2 c2] 25)).alloc (.cells #[.int .u64 (m0 : Int), .int .u64 (m1 : Int), .int .u64 (m2 : Int), .slice B1 b1 d1, .slice B2 b2 d2] 25)) (w.heap.size + 1) (.int .u64 (m0 : Int)) (.int .u64 (m1 : Int)) (.int .u64 (m2 : Int)) (.slice B1 b1 d1) (.slice B2 b2 d2)) := by
  have := At5.new (w.alloc (.cells #[.int .u64 (n0 : Int), .int .u64 (n1 : Int), .int .u64 (n2 : Int), .slice A1 a1 c1, .slice A2 a2 c2] 25)) 25 (.int .u64 (m0 : Int)) (.int .u64 (m1 : Int)) (.int .u64 (m2 : Int)) (.slice B1 b1 d1) (.slice B2 b2 d2)
  rw [size_alloc] at this; exact this
 have HD := Lib.hid ((Below.refl ((w.alloc (.cells #[.int .u64 (n0 : Int), .int .u64 (n1 : Int), .int .u64 (n2 : Int), .slice A1 a1 c1, .slice A2 a2 c2] 25)).alloc (.cells #[.int .u64 (m0 : Int), .int .u64 (m1 : Int), .int .u64 (m2 : Int), .slice B1 b1 d1, .slice B2 b2 d2] 25)).heap.size ((w.alloc (.cells #[.int .u64 (n0 : Int), .int .u64 (n1 : Int), .int .u64 (n2 : Int), .slice A1 a1 c1, .slice A2 a2 c2] 25)).alloc (.cells #[.int .u64 (m0 : Int), .int .u64 (m1 : Int), .int .u64 (m2 : Int), .slice B1 b1 d1, .slice B2 b2 d2] 25))).drew)
 have HDw := Lib.hid (HD.out.mono (B' := w.heap.size) (by simp; omega))
 by_cases hn : n0 = m0 ∧ n1 = m1 ∧ n2 = m2
 ·obtain ⟨rfl, rfl, rfl⟩ := hn
  have kq := fun W => run_eq3 n0 n1 n2 n0 n1 n2 W
  rw [show ((((n0 : Int) == (n0 : Int)) && (((n1 : Int) == (n1 : Int)) && ((n2 : Int) == (n2 : Int))))) = true by simp] at kq
  have HF : Hid (sameV ⟨n0, n1, n2, xs1, xs2⟩ ⟨n0, n1, n2, ys1, ys2⟩ = (sameB xs1 ys1 && sameB xs2 ys2)) := by unfold Hid sameV; simp
  go_enter Tryz.func56, Tryz.ntmps56
  go_upto_region 1 with (fail)
  refine wp_region_held_drew (S := fun w' => (w'.cell? ⟨w.heap.size, 0, none⟩ = some (.int .u64 (n0 : Int)) ∧ w'.cell? ⟨w.heap.size, 1, none⟩ = some (.int .u64 (n1 : Int)) ∧ w'.cell? ⟨w.heap.size, 2, none⟩ = some (.int .u64 (n2 : Int)) ∧ w'.cell? ⟨w.heap.size, 3, none⟩ = some (.slice A1 a1 c1) ∧ w'.cell? ⟨w.heap.size, 4, none⟩ = some (.slice A2 a2 c2)) ∧ (w'.cell? ⟨(w.heap.size + 1), 0, none⟩ = some (.int .u64 (n0 : Int)) ∧ w'.cell? ⟨(w.heap.size + 1), 1, none⟩ = some (.int .u64 (n1 : Int)) ∧ w'.cell? ⟨(w.heap.size + 1), 2, none⟩ = some (.int .u64 (n2 : Int)) ∧ w'.cell? ⟨(w.heap.size + 1), 3, none⟩ = some (.slice B1 b1 d1) ∧ w'.cell? ⟨(w.heap.size + 1), 4, none⟩ = some (.slice B2 b2 d2))) (by kernel_rfl) ⟨HP1.out.2.2, HP2.out.2.2⟩ (fun hHeld => ?_)
  refine tk 0 rfl (.agg #[.int .u64 (n0 : Int), .int .u64 (n1 : Int), .int .u64 (n2 : Int), .slice A1 a1 c1, .slice A2 a2 c2]) ?_
  refine tk 2 rfl (.agg #[.int .u64 (n0 : Int), .int .u64 (n1 : Int), .int .u64 (n2 : Int), .slice B1 b1 d1, .slice B2 b2 d2]) ?_
  refine cl 1 rfl fun K hK => ?_
  go_simp
  refine (coreOf_any _ _ _ _ _ _).mono ?_
  rintro e w2 ⟨rfl, hb2⟩
  have HK1 := Lib.hid ((HP1.out.kept HD.out (by simp; omega)).kept hb2 (by simp; omega))
  have HK2 := Lib.hid ((HP2.out.kept HD.out (by simp)).kept hb2 (by simp))
  have HB2 := Lib.hid ((HB0.out.trans HDw.out).trans (hb2.mono (by simp; omega)))
  have hz2 : w.heap.size + 2 ≤ w2.heap.size := by have := hb2.size; simpa using this
  clear hb2
  refine hK.out _ _ ⟨HK1.out.2.2, HK2.out.2.2⟩ (fun hHeld => ?_)
  clear hK K
  try simp only [Act.put, p1, p2, p3]
  refine cl 3 rfl fun K hK => ?_
  go_simp
  refine (coreOf_any _ _ _ _ _ _).mono ?_
  rintro e w3 ⟨rfl, hb3⟩
  have HM1 := Lib.hid (HK1.out.kept hb3 (by omega))
  have HM2 := Lib.hid (HK2.out.kept hb3 (by omega))
  have HB3 := Lib.hid (HB2.out.trans (hb3.mono (by omega)))
  have hz3 := hb3.size
  clear hb3
  refine hK.out _ _ ⟨HM1.out.2.2, HM2.out.2.2⟩ (fun hHeld => ?_)
  clear hK K
  try simp only [Act.put, p1, p2, p3]
  refine tk 4 rfl (.bool true) ?_
  refine tk 5 rfl (.bool true) ?_
  refine tk 6 rfl (.pointer (some ⟨w.heap.size, 3, none⟩)) ?_
  refine tk 7 rfl (.slice A1 a1 c1) ?_
  refine tk 8 rfl (.pointer (some ⟨w.heap.size + 1, 3, none⟩)) ?_
  refine tk 9 rfl (.slice B1 b1 d1) ?_
  refine cl 10 rfl fun K hK => ?_
  go_simp
  refine (equal_any _ _ _ xs1 _ _ _ ys1 _ (R1.out.kept HB3.out) (Q1.out.kept HB3.out) HA1.out HB1.out).mono ?_
  rintro e w4 ⟨rfl, hb4⟩
  have HN1 := Lib.hid (HM1.out.kept hb4 (by omega))
  have HN2 := Lib.hid (HM2.out.kept hb4 (by omega))
  have HB4 := Lib.hid (HB3.out.trans (hb4.mono (by omega)))
  have hz4 := hb4.size
  clear hb4
  refine hK.out _ _ ⟨HN1.out.2.2, HN2.out.2.2⟩ (fun hHeld => ?_)
  clear hK K
  try simp only [Act.put, p1, p2, p3]
  generalize sameB xs1 ys1 = s1 at HF ⊢
  cases s1
  ·refine tk 11 rfl (.bool false) ?_
   refine tk 12 rfl (.bool false) ?_
   refine sk 13 rfl ?_
   refine sk 14 rfl ?_
   refine sk 15 rfl ?_
   refine sk 16 rfl ?_
   refine sk 17 rfl ?_
   refine tk 18 rfl (.bool false) ?_
   refine tk 19 rfl (.bool false) ?_
   refine wpAnyH_done (by kernel_rfl) ?_ _
   go_wp2
   go_ret
   exact ⟨by rw [HF.out]; rfl, HB4.out⟩
  ·refine tk 11 rfl (.bool true) ?_
   refine tk 12 rfl (.bool true) ?_
   refine tk 13 rfl (.pointer (some ⟨w.heap.size, 4, none⟩)) ?_
   refine tk 14 rfl (.slice A2 a2 c2) ?_
   refine tk 15 rfl (.pointer (some ⟨w.heap.size + 1, 4, none⟩)) ?_
   refine tk 16 rfl (.slice B2 b2 d2) ?_
   refine cl 17 rfl fun K hK => ?_
   go_simp
   refine (equal_any _ _ _ xs2 _ _ _ ys2 _ (R2.out.kept HB4.out) (Q2.out.kept HB4.out) HA2.out HB2s.out).mono ?_
   rintro e w5 ⟨rfl, hb5⟩
   have HO1 := Lib.hid (HN1.out.kept hb5 (by omega))
   have HO2 := Lib.hid (HN2.out.kept hb5 (by omega))
   have HB5 := Lib.hid (HB4.out.trans (hb5.mono (by omega)))
   clear hb5
   refine hK.out _ _ ⟨HO1.out.2.2, HO2.out.2.2⟩ (fun hHeld => ?_)
   clear hK K
   try simp only [Act.put, p1, p2, p3]
   refine tk 18 rfl (.bool (sameB xs2 ys2)) ?_
   refine tk 19 rfl (.bool (sameB xs2 ys2)) ?_
   refine wpAnyH_done (by kernel_rfl) ?_ _
   go_wp2
   go_ret
   exact ⟨by rw [HF.out]; rfl, HB5.out⟩
 ·have HF : Hid (sameV ⟨n0, n1, n2, xs1, xs2⟩ ⟨m0, m1, m2, ys1, ys2⟩ = false) := by unfold Hid sameV; rw [decide_eq_false hn]; rfl
  have hq : (((n0 : Int) == (m0 : Int)) && (((n1 : Int) == (m1 : Int)) && ((n2 : Int) == (m2 : Int)))) = false := by
   rw [← Bool.not_eq_true]; simp only [Bool.and_eq_true, beq_iff_eq]; omega
  have kq := fun W => run_eq3 n0 n1 n2 m0 m1 m2 W
  rw [hq] at kq
  clear hn hq
  go_enter Tryz.func56, Tryz.ntmps56
  go_upto_region 1 with (fail)
  refine wp_region_held_drew (S := fun w' => (w'.cell? ⟨w.heap.size, 0, none⟩ = some (.int .u64 (n0 : Int)) ∧ w'.cell? ⟨w.heap.size, 1, none⟩ = some (.int .u64 (n1 : Int)) ∧ w'.cell? ⟨w.heap.size, 2, none⟩ = some (.int .u64 (n2 : Int)) ∧ w'.cell? ⟨w.heap.size, 3, none⟩ = some (.slice A1 a1 c1) ∧ w'.cell? ⟨w.heap.size, 4, none⟩ = some (.slice A2 a2 c2)) ∧ (w'.cell? ⟨(w.heap.size + 1), 0, none⟩ = some (.int .u64 (m0 : Int)) ∧ w'.cell? ⟨(w.heap.size + 1), 1, none⟩ = some (.int .u64 (m1 : Int)) ∧ w'.cell? ⟨(w.heap.size + 1), 2, none⟩ = some (.int .u64 (m2 : Int)) ∧ w'.cell? ⟨(w.heap.size + 1), 3, none⟩ = some (.slice B1 b1 d1) ∧ w'.cell? ⟨(w.heap.size + 1), 4, none⟩ = some (.slice B2 b2 d2))) (by kernel_rfl) ⟨HP1.out.2.2, HP2.out.2.2⟩ (fun hHeld => ?_)
  refine tk 0 rfl (.agg #[.int .u64 (n0 : Int), .int .u64 (n1 : Int), .int .u64 (n2 : Int), .slice A1 a1 c1, .slice A2 a2 c2]) ?_
  refine tk 2 rfl (.agg #[.int .u64 (m0 : Int), .int .u64 (m1 : Int), .int .u64 (m2 : Int), .slice B1 b1 d1, .slice B2 b2 d2]) ?_
  refine cl 1 rfl fun K hK => ?_
  go_simp
  refine (coreOf_any _ _ _ _ _ _).mono ?_
  rintro e w2 ⟨rfl, hb2⟩
  have HK1 := Lib.hid ((HP1.out.kept HD.out (by simp; omega)).kept hb2 (by simp; omega))
  have HK2 := Lib.hid ((HP2.out.kept HD.out (by simp)).kept hb2 (by simp))
  have HB2 := Lib.hid ((HB0.out.trans HDw.out).trans (hb2.mono (by simp; omega)))
  have hz2 : w.heap.size + 2 ≤ w2.heap.size := by have := hb2.size; simpa using this
  clear hb2
  refine hK.out _ _ ⟨HK1.out.2.2, HK2.out.2.2⟩ (fun hHeld => ?_)
  clear hK K
  try simp only [Act.put, p1, p2, p3]
  refine cl 3 rfl fun K hK => ?_
  go_simp
  refine (coreOf_any _ _ _ _ _ _).mono ?_
  rintro e w3 ⟨rfl, hb3⟩
  have HM1 := Lib.hid (HK1.out.kept hb3 (by omega))
  have HM2 := Lib.hid (HK2.out.kept hb3 (by omega))
  have HB3 := Lib.hid (HB2.out.trans (hb3.mono (by omega)))
  have hz3 := hb3.size
  clear hb3
  refine hK.out _ _ ⟨HM1.out.2.2, HM2.out.2.2⟩ (fun hHeld => ?_)
  clear hK K
  try simp only [Act.put, p1, p2, p3]
  refine tk 4 rfl (.bool false) ?_
  refine tk 5 rfl (.bool false) ?_
  refine sk 6 rfl ?_
  refine sk 7 rfl ?_
  refine sk 8 rfl ?_
  refine sk 9 rfl ?_
  refine sk 10 rfl ?_
  refine tk 11 rfl (.bool false) ?_
  refine tk 12 rfl (.bool false) ?_
  refine sk 13 rfl ?_
  refine sk 14 rfl ?_
  refine sk 15 rfl ?_
  refine sk 16 rfl ?_
  refine sk 17 rfl ?_
  refine tk 18 rfl (.bool false) ?_
  refine tk 19 rfl (.bool false) ?_
  refine wpAnyH_done (by kernel_rfl) ?_ _
  go_wp2
  go_ret
  exact ⟨by rw [HF.out]; rfl, HB3.out⟩
end Go.Proofs.YtgfbflnhjpbceaaGreatDoor.Semver
namespace Go.Proofs.YtgfbflnhjpbceaaGreatDoor.Ident
open Go.RowKit Num

def digB (x : Int) : Bool := decide (48 ≤ x ∧ x ≤ 57)
def letB (x : Int) : Bool := decide ((65 ≤ x ∧ x ≤ 90) ∨ (97 ≤ x ∧ x ≤ 122))
theorem digB_yes {x : Int} (h : 48 ≤ x ∧ x ≤ 57) : digB x = true := decide_eq_true h
theorem digB_no {x : Int} (h : ¬ (48 ≤ x ∧ x ≤ 57)) : digB x = false := decide_eq_false h
theorem letB_yes {x : Int} (h : (65 ≤ x ∧ x ≤ 90) ∨ (97 ≤ x ∧ x ≤ 122)) : letB x = true := decide_eq_true h
theorem letB_no {x : Int} (h : ¬ ((65 ≤ x ∧ x ≤ 90) ∨ (97 ≤ x ∧ x ≤ 122))) : letB x = false := decide_eq_false h
theorem digB_at (b : UInt8) : digB (b.toNat : Int) = isDig b := by
 rw [Bool.eq_iff_iff, isDig_iff]; unfold digB; rw [decide_eq_true_eq]; omega
theorem letB_at (b : UInt8) : letB (b.toNat : Int) = isLet b := by
 rw [Bool.eq_iff_iff, isLet_iff]; unfold letB; rw [decide_eq_true_eq]; omega
def idB (x : Int) : Bool := digB x || letB x || x == 45
theorem idB_at (b : UInt8) : idB (b.toNat : Int) = isId b := by
 unfold idB isId; rw [digB_at, letB_at]; congr 1; rw [Bool.eq_iff_iff]; simp; omega
theorem fault_5 {s : List UInt8} (i : Nat) (pre : Bool) (h : s.length = 0) : fault s i pre = 5 := by unfold fault; rw [if_pos h]
theorem fault_4 {s : List UInt8} {i : Nat} (pre : Bool) (h0 : s.length ≠ 0) (h : 255 < s.length ∨ 16 ≤ i) : fault s i pre = 4 := by unfold fault; rw [if_neg h0, if_pos h]
theorem fault_3 {s : List UInt8} {i : Nat} {pre : Bool} (h0 : s.length ≠ 0) (h1 : ¬ (255 < s.length ∨ 16 ≤ i)) (h : pre = true ∧ numeric s = true ∧ isNum s = false) : fault s i pre = 3 := by
 unfold fault; rw [if_neg h0, if_neg h1, if_pos h]
theorem fault_0 {s : List UInt8} {i : Nat} {pre : Bool} (h0 : s.length ≠ 0) (h1 : ¬ (255 < s.length ∨ 16 ≤ i)) (h : ¬ (pre = true ∧ numeric s = true ∧ isNum s = false)) : fault s i pre = 0 := by
 unfold fault; rw [if_neg h0, if_neg h1, if_neg h]
theorem empty_iff (s : ByteArray) : s.toList.isEmpty = true ↔ s.size = 0 := by
 rw [Lib.toList_data, List.isEmpty_iff_length_eq_zero, ← Lib.size_eq]
theorem empty_no (s : ByteArray) : s.toList.isEmpty = false ↔ s.size ≠ 0 := by
 rw [← Bool.not_eq_true, empty_iff]
end Go.Proofs.YtgfbflnhjpbceaaGreatDoor.Ident
namespace Go.Proofs.YtgfbflnhjpbceaaGreatDoor.Ident
open Go.RowKit Num

theorem digit_any (x : Int) (w : World) (h0 : 0 ≤ x) (h1 : x ≤ 255) :
  Calls Tryz.prog 128 #[.int .u8 x] w fun e w' => e = .returned (.bool (digB x)) ∧ w = w' := by
 by_cases ha : 48 ≤ x
 ·by_cases hb : x ≤ 57
  ·have HF := Lib.hid (digB_yes ⟨ha, hb⟩)
   go_enter Tryz.func128, Tryz.ntmps128
   go_wp2
   go_ret
   exact ⟨by rw [HF.out]; rfl, rfl⟩
  ·have HF := Lib.hid (digB_no (x := x) (by omega))
   go_enter Tryz.func128, Tryz.ntmps128
   go_wp2
   go_ret
   exact ⟨by rw [HF.out]; rfl, rfl⟩
 ·have HF := Lib.hid (digB_no (x := x) (by omega))
  go_enter Tryz.func128, Tryz.ntmps128
  go_wp2
  go_ret
  exact ⟨by rw [HF.out]; rfl, rfl⟩
def NumcJ (w : World) (s : ByteArray) (a' : Act) (w' : World) : Prop :=
 w = w' ∧ ∃ (k : Nat) (u4 u5 u6 u7 u8 u9 u10 u11 u12 u13 u14 u15 u16 u17 u18 u19 u20 u21 u22 u23 : Value), k ≤ s.size ∧ (∀ j, j < k → isDig (s.data.toList.getD j 0) = true) ∧ a' = { tmps := #[.string s, undef, .bool false, .int .i64 k, u4, u5, u6, u7, u8, u9, u10, u11, u12, u13, u14, u15, u16, u17, u18, u19, u20, u21, u22, u23], defers := [] }
def NumcM (n : Nat) (a' : Act) (_ : World) : Nat := n - (intOf (a'.tmps.getD 3 undef)).toNat
theorem numeric_any (s : ByteArray) (w : World) (hs : s.size ≤ maxLen) :
  Calls Tryz.prog 126 #[.string s] w fun e w' => e = .returned (.bool (numeric s.data.toList)) ∧ w = w' := by
 unfold maxLen at hs
 have HL := Lib.hid (Lib.size_eq s)
 go_enter Tryz.func126, Tryz.ntmps126
 go_wp2
 refine wp_scope_back 0 (NumcJ w s) (NumcM s.size) rfl ?_ ?_
 ·rintro a' w' ⟨rfl, k, u4, u5, u6, u7, u8, u9, u10, u11, u12, u13, u14, u15, u16, u17, u18, u19, u20, u21, u22, u23, hk, hd, rfl⟩
  have HD := Lib.hid hd; clear hd
  by_cases hlt : k < s.size
  ·have hbd := byteAt_bd s.data.toList k
   have HX := Lib.hid (at_text s k hlt)
   have HI : Hid (isDig (s.data.toList.getD k 0) = digB (byteAt s.data.toList k)) := (digB_at _).symm
   rw [← HX.out] at hbd HI
   obtain ⟨hx0, hx1⟩ := hbd
   go_wp2_with fail
   refine (digit_any _ _ hx0 hx1).mono ?_
   rintro e w' ⟨rfl, rfl⟩
   cases h1 : digB (s[k].toNat : Int)
   ·have HS : Hid (run s.data.toList = k) := run_stop _ k (by rw [← HL.out]; omega) HD.out (.inr (by rw [HI.out]; exact h1))
    have HF : Hid (numeric s.data.toList = false) := (numeric_no _).2 fun hh => by rw [HS.out, ← HL.out] at hh; omega
    have H1 := Lib.hid h1; clear h1
    have hne : ((k : Int) == (s.size : Int)) = false := by simp; omega
    by_cases h0 : 0 < k
    ·go_wp2
     simp only [Exit.jump]
     go_ret
     exact ⟨by rw [HF.out]; rfl, rfl⟩
    ·go_wp2
     simp only [Exit.jump]
     go_ret
     exact ⟨by rw [HF.out]; rfl, rfl⟩
   ·have HN : Hid (∀ j, j < k + 1 → isDig (s.data.toList.getD j 0) = true) := fun j hj => by
     rcases Nat.lt_or_ge j k with hj1 | hj1
     ·exact HD.out j hj1
     ·obtain rfl : j = k := by omega
      rw [HI.out]; exact h1
    have H1 := Lib.hid h1; clear h1
    go_wp2
    go_step3
    rw [show ((k : Int) + 1) = ((k + 1 : Nat) : Int) from rfl]
    refine ⟨rfl, ⟨rfl, k + 1, _, _, _, _, _, _, _, _, _, _, _, _, _, _, _, _, _, _, _, _, by omega, HN.out, rfl⟩, ?_⟩
    simp [NumcM, intOf]; omega
  ·obtain rfl : k = s.size := by omega
   have HS : Hid (run s.data.toList = s.size) := run_stop _ s.size (by rw [← HL.out]; omega) HD.out (.inl HL.out)
   by_cases h0 : 0 < s.size
   ·have HF : Hid (numeric s.data.toList = true) := (numeric_iff _).2 ⟨by rw [← HL.out]; exact h0, by rw [HS.out, HL.out]⟩
    go_wp2
    simp only [Exit.jump]
    go_ret
    exact ⟨by rw [HF.out]; rfl, rfl⟩
   ·have HF : Hid (numeric s.data.toList = false) := (numeric_no _).2 fun hh => h0 (by rw [HL.out]; exact hh.1)
    go_wp2
    simp only [Exit.jump]
    go_ret
    exact ⟨by rw [HF.out]; rfl, rfl⟩
 ·intro HP
  go_wp2
  go_step3
  rename_i hK
  exact hK _ _ (HP.out _ _ ⟨rfl, 0, _, _, _, _, _, _, _, _, _, _, _, _, _, _, _, _, _, _, _, _, by omega, (fun j hj => by omega), rfl⟩)
end Go.Proofs.YtgfbflnhjpbceaaGreatDoor.Ident
