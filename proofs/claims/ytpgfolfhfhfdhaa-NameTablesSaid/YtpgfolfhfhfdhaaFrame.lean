/-
  Frames of objects: a world that is as it was but for some blocks, and new ones (But); a block of two cells (At2); what is carried over such a step. Conditions: as each states.
-/
import Derived.Test.YtpgfolfhfhfdhaaNumMem
import Derived.Maps.OwnSet
import Derived.Laws.OwnMore
namespace Go.Proofs.Ytpgfolfhfhfdhaa.Fr
open Go.RowKit Num

/-- w' is w but for the blocks of T, and new ones. -/
structure But (T : Nat → Prop) (w w' : World) : Prop where
  os : w'.os = w.os
  tape : w'.tape = w.tape
  output : w'.output = w.output
  size : w.heap.size ≤ w'.heap.size
  block : ∀ k, k < w.heap.size → ¬ T k → w'.heap[k]? = w.heap[k]?
theorem But.refl (T : Nat → Prop) (w : World) : But T w w := ⟨rfl, rfl, rfl, Nat.le_refl _, fun _ _ _ => rfl⟩
theorem But.mono {T T' : Nat → Prop} {w w' : World} (h : But T w w') (ht : ∀ k, T k → T' k) : But T' w w' := ⟨h.os, h.tape, h.output, h.size, fun k hk hn => h.block k hk fun g => hn (ht k g)⟩
theorem But.trans {T T' : Nat → Prop} {a b c : World} (h : But T a b) (k : But T' b c) (ht : ∀ i, T' i → T i ∨ a.heap.size ≤ i) : But T a c :=
  ⟨k.os.trans h.os, k.tape.trans h.tape, k.output.trans h.output, Nat.le_trans h.size k.size, fun i hi hn => (k.block i (Nat.lt_of_lt_of_le hi h.size) fun g => by
    rcases ht i g with g | g
    · exact hn g
    · omega).trans (h.block i hi hn)⟩
theorem But.drew {T : Nat → Prop} {a w : World} (h : But T a w) : But T a w.drew := ⟨h.os, h.tape, h.output, h.size, h.block⟩
theorem But.of_below {T : Nat → Prop} {B : Nat} {w w' : World} (h : Below B w w') (ht : ∀ k, k < w.heap.size → ¬ T k → k < B) : But T w w' := ⟨h.os, h.tape, h.output, h.size, fun k hk hn => h.block k (ht k hk hn)⟩
theorem But.of_same {w w' : World} (h : Below w.heap.size w w') (T : Nat → Prop) : But T w w' := .of_below h fun _ hk _ => hk
theorem But.of_grown {T : Nat → Prop} {w w' : World} {row : Option Nat} (h : w.grownBy w' row) (ht : ∀ b, row = some b → T b) : But T w w' :=
  ⟨h.os, h.tape, h.output, h.size, fun k hk hn => h.block k hk fun e => hn (ht k e.symm)⟩
theorem But.alloc {T : Nat → Prop} {a w : World} (h : But T a w) (o : Obj) : But T a (w.alloc o) :=
  h.trans (But.of_same ((Below.refl _ _).alloc (Nat.le_refl _) o) fun _ => False) fun _ g => g.elim
theorem But.set {T : Nat → Prop} {a w : World} (h : But T a w) (b o : Nat) (v : Value) (hb : T b ∨ a.heap.size ≤ b) : But T a (w.setCell ⟨b, o, none⟩ v) :=
  h.trans (T' := fun k => k = b) ⟨rfl, rfl, rfl, by simp [World.setCell], fun k _ hn => Below.heap_setCell _ _ _ _ hn⟩ fun i e => by rw [e]; exact hb
theorem But.below {T : Nat → Prop} {B : Nat} {w w' : World} (h : But T w w') (ht : ∀ k, T k → B ≤ k) (hB : B ≤ w.heap.size) : Below B w w' :=
  ⟨h.os, h.tape, h.output, h.size, fun k hk => h.block k (Nat.lt_of_lt_of_le hk hB) fun g => by have := ht k g; omega⟩
theorem But.cell {T : Nat → Prop} {w w' : World} {b o : Nat} (h : But T w w') (hb : b < w.heap.size) (hn : ¬ T b) : w'.cell? ⟨b, o, none⟩ = w.cell? ⟨b, o, none⟩ := World.cell?_of_block (a := ⟨b, o, none⟩) (h.block b hb hn)
theorem But.frozen {T : Nat → Prop} {w w' : World} {b o : Nat} (h : But T w w') (hb : b < w.heap.size) (hn : ¬ T b) : w'.frozen? ⟨b, o, none⟩ = w.frozen? ⟨b, o, none⟩ := World.frozen?_of_block (a := ⟨b, o, none⟩) (h.block b hb hn)
theorem own_lt {w : World} {base : Nat} {e : TypeId} {size : Nat} {v : Value} {n : Nat} {xs : List Value} (h : w.ownsRow base e size v n xs) {b : Nat} (hb : v.ownBlock = some b) : b < w.heap.size := (h.lt b hb).2
theorem own_but {T : Nat → Prop} {w w' : World} {base : Nat} {e : TypeId} {size : Nat} {v : Value} {n : Nat} {xs : List Value} (h : w.ownsRow base e size v n xs) (hb : But T w w') (hn : ∀ b, v.ownBlock = some b → ¬ T b) : w'.ownsRow base e size v n xs := by
  have hlt := fun b g => own_lt h (b := b) g
  rcases h with ⟨hl, h | ⟨g, cap, cur, rfl, hbg, hg, r⟩⟩
  · exact ⟨hl, .inl h⟩
  · exact ⟨hl, .inr ⟨g, cap, cur, rfl, hbg, (hb.block g (hlt g rfl) (hn g rfl)).trans hg, r⟩⟩
theorem map_but {H : Type} {P : Program} {k : TypeId} {R : Value → Option (DataW H × List MemPlace)} {T : Nat → Prop} {w w' : World} {b n : Nat} {D : DataW H} (h : w.ownsMap P k R b n D) (hb : But T w w') (hn : ¬ T b) : w'.ownsMap P k R b n D := by
  have hlt := h.lt
  obtain ⟨es, clock, h1, r⟩ := h
  exact ⟨es, clock, (hb.block b hlt hn).trans h1, r⟩

/-- A block of 2 cells, none frozen. -/
structure At2 (W : World) (b : Nat) (u0 u1 : Value) : Prop where
  lt : b < W.heap.size
  fr : ∀ o, W.frozen? ⟨b, o, none⟩ = false
  c0 : W.cell? ⟨b, 0, none⟩ = some u0
  c1 : W.cell? ⟨b, 1, none⟩ = some u1
theorem At2.new (w : World) (t : TypeId) (u0 u1 : Value) : At2 (w.alloc (.cells #[u0, u1] t)) w.heap.size u0 u1 := by
  refine ⟨by simp, fun o => by simp [go_sem], ?_, ?_⟩ <;> simp [go_sem]
theorem At2.but {T : Nat → Prop} {W W' : World} {b : Nat} {u0 u1 : Value} (h : At2 W b u0 u1) (hb : But T W W') (hn : ¬ T b) : At2 W' b u0 u1 :=
  ⟨Nat.lt_of_lt_of_le h.lt hb.size, fun o => (hb.frozen h.lt hn).trans (h.fr o), (hb.cell h.lt hn).trans h.c0, (hb.cell h.lt hn).trans h.c1⟩
theorem At2.set0 {W : World} {b : Nat} {u0 u1 : Value} (h : At2 W b u0 u1) (v : Value) : At2 (W.setCell ⟨b, 0, none⟩ v) b v u1 := by
  obtain ⟨h1, h2, c0, c1⟩ := h
  refine ⟨by simpa using h1, fun o => by simp [go_sem, h2], ?_, ?_⟩ <;> simp [go_sem, c0, c1]
theorem At2.set1 {W : World} {b : Nat} {u0 u1 : Value} (h : At2 W b u0 u1) (v : Value) : At2 (W.setCell ⟨b, 1, none⟩ v) b u0 v := by
  obtain ⟨h1, h2, c0, c1⟩ := h
  refine ⟨by simpa using h1, fun o => by simp [go_sem, h2], ?_, ?_⟩ <;> simp [go_sem, c0, c1]
end Go.Proofs.Ytpgfolfhfhfdhaa.Fr
