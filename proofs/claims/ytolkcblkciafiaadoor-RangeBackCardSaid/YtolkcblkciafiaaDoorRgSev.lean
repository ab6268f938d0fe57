/-
  Parts read one by one as long as a further one is there (rangeexpr.several), whatever reads a part and looks for a further one. Conditions: the reader's block holds its bytes (at most 100000) and a place within them; the table of ops reads as it is written; a part takes a byte at least. (Made by wip/gen_rgsev.py.)
-/
import Derived.Test.YtolkcblkciafiaaDoorRgVer
namespace Go.Proofs.YtolkcblkciafiaaDoor.Range
open Go.RowKit Num Ident Semver

theorem rgInfo : (Tryd.prog.info? 29).map (fun i => (i.zero, i.size, i.bytes)) = some (some (.agg #[.int .i64 0, .int .u64 0, .int .u64 0, .int .u64 0, .slice none 0 0, .slice none 0 0, .slice none 0 0]), 7, 104) := by kernel_rfl
theorem wpList_append_rg (w : World) {ops : Array Oper} {rest : List Oper} {o : Oper} {a : Act} {Q : Exit → Act → World → Prop} (hgd : o.guard = none) (s x : Operand)
    (ho : o.op = .call { callee := .builtin .append, args := #[s, x], argTypes := #[27, 27] })
    (base : Nat) (v : Value) (n : Nat) (xs : List RV) (hs : a.eval s = v) (hown : w.ownsRow base 29 7 v n (xs.flatMap RV.vals))
    (ad : Addr) (y : RV) (hx : a.eval x = .slice (some ad) 1 1) (hnews : ∀ j u, y.vals[j]? = some u → w.cell? (ad.add j) = some u) (hb : (n + 1) * 104 ≤ 140737488355328) (hbase : base ≤ w.heap.size)
    (h : ∀ v' w', w'.ownsRow base 29 7 v' (n + 1) ((xs ++ [y]).flatMap RV.vals) → w.grownBy w' v.ownBlock → (v'.ownBlock = v.ownBlock ∨ v'.ownBlock = some w.heap.size) → wpList Tryd.prog ops Q rest (a.put o.dst v') w') : wpList Tryd.prog ops Q (o :: rest) a w := by
  obtain ⟨i, hi, hz, hsz, hby⟩ := info_parts rgInfo
  refine wpList_append_own_at w hgd s x 27 ho base 29 i _ 7 104 Tryd.underlying27 hi hz hsz hby rfl (by omega) v n _ hs hown ad 1 1 y.vals hx rfl hnews (rv_one y) (by unfold maxLen; omega) hb hbase (fun v' w' h2 h3 _ h5 => ?_)
  exact h v' w' (by rw [List.flatMap_append]; simpa using h2) h3 h5
/-- The blocks of the elements of a slice of the call's own: made by the call, none of them the slice's. -/
def Elems (B : Nat) (v : Value) (g : Nat) : Prop := B ≤ g ∧ some g ≠ v.ownBlock
/-- A slice of the call's own that reads as a list of ranges. -/
structure OwnRg (w : World) (B : Nat) (v : Value) (l : List Rng) (xs : List RV) : Prop where
  own : w.ownsRow B 29 7 v l.length (xs.flatMap RV.vals)
  len : xs.length = l.length
  lies : ∀ j, j < l.length → Lies w (Elems B v) (l.getD j noRng) (xs.getD j default)
theorem OwnRg.nil (w : World) (B : Nat) : OwnRg w B (.slice none 0 0) [] [] := ⟨World.ownsRow_nil _ _ _ _, rfl, fun _ hj => absurd hj (Nat.not_lt_zero _)⟩
theorem OwnRg.kept {w w' : World} {B : Nat} {v : Value} {l : List Rng} {xs : List RV} (h : OwnRg w B v l xs) (k : Below w.heap.size w w') : OwnRg w' B v l xs := ⟨own_below h.own k, h.len, fun j hj => (h.lies j hj).keep (KeepS.of_below k)⟩
theorem OwnRg.moved {w w' : World} {B b : Nat} {v : Value} {l : List Rng} {xs : List RV} (h : OwnRg w B v l xs) (k : Moved b w w') (hb : b < B) : OwnRg w' B v l xs := by
  refine ⟨h.own.kept (row := some b) ⟨k.os, k.tape, k.output, k.size, fun i hi hne => k.block i hi (fun e => hne (by rw [e]))⟩ ?_, h.len, fun j hj => (h.lies j hj).keep (KeepS.moved k (fun e => by have := e.1; omega))⟩
  cases hv : v.ownBlock with
  | none => exact .inl rfl
  | some g => right; intro e; injection e with e; have := (h.own.lt g hv).1; omega
/-- One more. -/
theorem OwnRg.more {w w' : World} {B : Nat} {v v' : Value} {l : List Rng} {xs : List RV} {r : Rng} {x : RV} {W0 : Nat} (h : OwnRg w B v l xs) (ho : w'.ownsRow B 29 7 v' (l.length + 1) ((xs ++ [x]).flatMap RV.vals)) (hg : w.grownBy w' v.ownBlock) (hat : v'.ownBlock = v.ownBlock ∨ v'.ownBlock = some w.heap.size) (hx : Lies w (From W0) r x) (hW : B ≤ W0) (hv : ∀ g, v.ownBlock = some g → g < W0) : OwnRg w' B v' (l ++ [r]) (xs ++ [x]) := by
  have hel : ∀ (q : Rng) (y : RV), Lies w (Elems B v) q y → Lies w' (Elems B v') q y := fun q y hq => by
    have h1 : Lies w (fun g => Elems B v g ∧ Elems B v' g) q y := hq.mono fun g hS hlt => ⟨hS, hS.1, by
      rcases hat with e | e
      · rw [e]; exact hS.2
      · rw [e]; intro h; injection h with h; omega⟩
    exact (h1.keep (KeepS.grown hg fun g hS => hS.1.2)).mono fun g hS _ => hS.2
  have hnew : Lies w (Elems B v) r x := hx.mono fun g hS _ => ⟨Nat.le_trans hW hS, fun e => by have := hv g e.symm; unfold From at hS; omega⟩
  refine ⟨by rw [List.length_append]; exact ho, by rw [List.length_append, List.length_append, h.len]; rfl, fun k hk => ?_⟩
  rw [List.length_append, List.length_singleton] at hk
  by_cases hlt : k < l.length
  · have e1 : (l ++ [r]).getD k noRng = l.getD k noRng := by simp [List.getD, List.getElem?_append_left hlt]
    have e2 : (xs ++ [x]).getD k default = xs.getD k default := by simp [List.getD, List.getElem?_append_left (show k < xs.length by rw [h.len]; exact hlt)]
    rw [e1, e2]; exact hel _ _ (h.lies k hlt)
  · have ek : k = l.length := by omega
    have e1 : (l ++ [r]).getD k noRng = r := by rw [ek]; simp [List.getD]
    have e2 : (xs ++ [x]).getD k default = x := by rw [ek, ← h.len]; simp [List.getD]
    rw [e1, e2]; exact hel _ _ hnew
theorem OwnRg.row {w : World} {B : Nat} {v : Value} {l : List Rng} {xs : List RV} (h : OwnRg w B v l xs) : ∃ L e, v = .slice L l.length e ∧ l.length ≤ e ∧ (L = none → e = 0) ∧ RgRow w (From B) L l.length l :=
  RgRow.of_own h.own (fun _ hg => hg) h.len rfl fun j hj => (h.lies j hj).mono fun _ hS _ => hS.1
theorem RgPost.alloc {b : Nat} {A : Option Addr} {n c : Nat} {l : List UInt8} {w W : World} {t : Out} {e : Ending} (h : RgPost b A n c l w t e W) (hb : b < w.heap.size) (o : Obj) : RgPost b A n c l w t e (W.alloc o) := by
  obtain ⟨x, q, h1, h2, h3, h4, h5⟩ := h
  exact ⟨x, q, h1, h2.keep (KeepS.alloc _ _), h3, h4.alloc _, h5.alloc hb _⟩
end Go.Proofs.YtolkcblkciafiaaDoor.Range
