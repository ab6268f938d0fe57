/-
  Integers in memory: a slice that reads as a list of integers (IRow), a row of the call's own, append onto it. Conditions: as each states.
-/
import Derived.Test.YtpgfolfhfhfdhaaNumMem
namespace Go.Proofs.Ytpgfolfhfhfdhaa.Ints
open Go.RowKit Num

theorem own_keep {w w' : World} {base : Nat} {e : TypeId} {size : Nat} {v : Value} {n : Nat} {xs : List Value} (h : w.ownsRow base e size v n xs) (hb : Below w.heap.size w w') : w'.ownsRow base e size v n xs :=
  h.kept (row := none) ⟨hb.os, hb.tape, hb.output, hb.size, fun i hi _ => hb.block i hi⟩ (by cases v.ownBlock <;> simp)
/-- Integers as cells. -/
def ints (l : List Int) : List Value := l.map fun x => Value.int .i64 x
theorem ints_length (l : List Int) : (ints l).length = l.length := by simp [ints]
theorem ints_append (l r : List Int) : ints (l ++ r) = ints l ++ ints r := by simp [ints]
theorem ints_one (l : List Int) : ∀ u ∈ ints l, u.oneCell' = true := by
  intro u hu
  simp only [ints, List.mem_map] at hu
  obtain ⟨b, _, rfl⟩ := hu
  rfl
theorem ints_at (l : List Int) (j : Nat) (hj : j < l.length) : (ints l)[j]? = some (.int .i64 (l.getD j 0)) := by
  simp [ints, List.getElem?_eq_getElem hj]
/-- The slice of n integers at A reads as the list l; a slice without elements may lie anywhere. -/
def IRow (w : World) (A : Option Addr) (n : Nat) (l : List Int) : Prop :=
  l.length = n ∧ n ≤ maxLen ∧ (0 < n → ∃ b o, A = some ⟨b, o, none⟩ ∧ b < w.heap.size ∧ ∀ j, j < n → w.cell? ⟨b, o + j, none⟩ = some (.int .i64 (l.getD j 0)))
theorem IRow.none_ (w : World) (A : Option Addr) : IRow w A 0 [] := ⟨rfl, by unfold maxLen; omega, fun h => by omega⟩
theorem IRow.keptB {w w' : World} {A : Option Addr} {n B : Nat} {l : List Int} (h : IRow w A n l) (hb : Below B w w') (hlt : ∀ b o, 0 < n → A = some ⟨b, o, none⟩ → b < B) : IRow w' A n l := by
  refine ⟨h.1, h.2.1, fun h0 => ?_⟩
  obtain ⟨b, o, e, h1, hc⟩ := h.2.2 h0
  exact ⟨b, o, e, Nat.lt_of_lt_of_le h1 hb.size, fun j hj => (hb.cell (p := ⟨b, o + j, none⟩) (hlt b o h0 e)).trans (hc j hj)⟩
theorem IRow.kept {w w' : World} {A : Option Addr} {n : Nat} {l : List Int} (h : IRow w A n l) (hb : Below w.heap.size w w') : IRow w' A n l :=
  h.keptB hb fun b o h0 e => by
    obtain ⟨b', o', e', h1, _⟩ := h.2.2 h0
    rw [e] at e'; injection e' with e'; injection e' with e'; subst e'; exact h1
theorem IRow.nil {w : World} {n : Nat} {l : List Int} (h : IRow w none n l) : n = 0 ∧ l = [] := by
  rcases Nat.eq_zero_or_pos n with h0 | h0
  · exact ⟨h0, List.eq_nil_of_length_eq_zero (by rw [h.1]; exact h0)⟩
  · obtain ⟨b, o, e, _⟩ := h.2.2 h0
    cases e
theorem IRow.news {w : World} {ad : Addr} {n : Nat} {l : List Int} (h : IRow w (some ad) n l) : ∀ j u, (ints l)[j]? = some u → w.cell? (ad.add j) = some u := by
  intro j u hu
  have hj : j < l.length := by
    have := (List.getElem?_eq_some_iff.1 hu).1
    rwa [ints_length] at this
  obtain ⟨b, o, e, _, hc⟩ := h.2.2 (by have := h.1; omega)
  injection e with e
  subst e
  rw [ints_at l j hj] at hu
  injection hu with hu
  rw [add_none, hc j (by rw [← h.1]; exact hj), hu]
/-- A piece of a slice reads as the piece of the list. -/
theorem IRow.piece {w : World} {A A' : Option Addr} {n : Nat} {l : List Int} (h : IRow w A n l) (p m : Nat) (hp : p + m ≤ n)
    (hA : 0 < m → ∀ b o, A = some ⟨b, o, none⟩ → A' = some ⟨b, o + p, none⟩) : IRow w A' m ((l.drop p).take m) := by
  obtain ⟨hl, hm, hc⟩ := h
  refine ⟨by rw [List.length_take, List.length_drop]; omega, by omega, fun h0 => ?_⟩
  obtain ⟨b, o, e, hb, hcell⟩ := hc (by omega)
  refine ⟨b, o + p, hA h0 b o e, hb, fun j hj => ?_⟩
  have e1 : ((l.drop p).take m).getD j 0 = l.getD (p + j) 0 := by simp [List.getD, hj]
  rw [e1, Nat.add_assoc]; exact hcell (p + j) (by omega)
/-- Where l[k:] lies. -/
theorem IRow.from_ {w : World} {A A' : Option Addr} {n : Nat} {l : List Int} (h : IRow w A n l) (k c : Nat) (hk : k ≤ n) (hc : n ≤ c) (hA : (if c = k then A else A.map (fun x => x.add k)) = A') : IRow w A' (n - k) (l.drop k) := by
  have := h.piece (A' := A') k (n - k) (by omega) (fun h0 b o e => by rw [← hA, if_neg (by omega)]; exact map_add k A b o e)
  rwa [List.take_of_length_le (by rw [List.length_drop, h.1]; exact Nat.le_refl _)] at this
/-- Where l[:k] lies. -/
theorem IRow.upto {w : World} {A : Option Addr} {n : Nat} {l : List Int} (h : IRow w A n l) (k : Nat) (hk : k ≤ n) : IRow w A k (l.take k) := by
  have := h.piece (A' := A) 0 k (by omega) (fun h0 b o e => e)
  simpa using this
theorem IRow.of_own {w : World} {base : Nat} {v : Value} {n : Nat} {l : List Int} (h : w.ownsRow base 3 1 v n (ints l)) :
    ∃ A c, v = .slice A n c ∧ n ≤ c ∧ (A = none → c = 0) ∧ IRow w A n l := by
  have hl : l.length = n := by have := h.1; rw [ints_length] at this; omega
  have hcs := fun g => h.cells (g := g)
  rcases h.2 with ⟨rfl, rfl⟩ | ⟨g, cap, cur, rfl, _, hg, hnc, hcm, _, _⟩
  · exact ⟨none, 0, rfl, Nat.le_refl _, fun _ => rfl, hl, by unfold maxLen; omega, fun h0 => by omega⟩
  · refine ⟨_, cap, rfl, hnc, (fun e => by cases e), hl, by omega, fun h0 => ⟨g, 0, rfl, (Array.getElem?_eq_some_iff.1 hg).1, fun j hj => ?_⟩⟩
    have := hcs g rfl j _ (ints_at l j (by omega))
    rwa [add_none] at this
theorem intInfo : (Try.prog.info? 3).map (fun i => (i.zero, i.size, i.bytes)) = some (some (.int .i64 0), 1, 8) := by kernel_rfl

theorem run_append_ints (w : World) (ty : TypeId) (base : Nat) (v : Value) (n : Nat) (xs : List Int) (hown : w.ownsRow base 3 1 v n (ints xs))
    (A : Option Addr) (m c : Nat) (ys : List Int) (hr : IRow w A m ys) (hnil : A = none → c = 0) (hb : (n + m) * 8 ≤ 140737488355328) (hbase : base ≤ w.heap.size) :
    ∃ v' w', (Builtin.append_ #[42, 42] ty #[v, .slice A m c]).run Try.prog w = .ok v' w' ∧ w'.ownsRow base 3 1 v' (n + m) (ints (xs ++ ys)) ∧ w.grownBy w' v.ownBlock := by
  obtain ⟨i, hi, hz, hs, hby⟩ := info_parts intInfo
  cases A with
  | none =>
    obtain ⟨rfl, rfl⟩ := hr.nil
    obtain rfl := hnil rfl
    exact ⟨v, w, run_append_owned_none (P := Try.prog) (w := w) base 42 ty 3 i 1 Try.underlying42 hi v n _ hown, by simpa using hown, World.grownBy.refl w _⟩
  | some ad =>
    obtain ⟨v', w', h1, h2, h3, _⟩ := run_append_own (P := Try.prog) w base 42 ty 3 i (.int .i64 0) 1 8 Try.underlying42 hi hz hs hby rfl (by omega) v n _ hown ad m c (ints ys)
      (by rw [ints_length, hr.1]; omega) hr.news (ints_one ys) (by unfold maxLen; omega) hb hbase
    exact ⟨v', w', h1, by rw [ints_append]; exact h2, h3⟩

theorem wpList_append_ints (w : World) {ops : Array Oper} {rest : List Oper} {o : Oper} {a : Act} {Q : Exit → Act → World → Prop} (hgd : o.guard = none) (s x : Operand)
    (ho : o.op = .call { callee := .builtin .append, args := #[s, x], argTypes := #[42, 42] })
    (base : Nat) (v : Value) (n : Nat) (xs : List Int) (hs : a.eval s = v) (hown : w.ownsRow base 3 1 v n (ints xs))
    (A : Option Addr) (m c : Nat) (ys : List Int) (hx : a.eval x = .slice A m c) (hr : IRow w A m ys) (hnil : A = none → c = 0) (hb : (n + m) * 8 ≤ 140737488355328) (hbase : base ≤ w.heap.size)
    (h : ∀ v' w', w'.ownsRow base 3 1 v' (n + m) (ints (xs ++ ys)) → Below base w w' → wpList Try.prog ops Q rest (a.put o.dst v') w') : wpList Try.prog ops Q (o :: rest) a w := by
  refine wpList_plain hgd fun K hK => ?_
  obtain ⟨v', w', hrun, h2, h3⟩ := run_append_ints w o.type base v n xs hown A m c ys hr hnil hb hbase
  unfold Oper.wp execOp
  simp only [ho, resolve, invoke, builtin, Sem.run_bind, Sem.run_pure, Result.andThen_ok, List.map_toArray, List.map_cons, List.map_nil, hs, hx, hrun]
  exact hK _ _ (h v' w' h2 ((Below.refl base w).grown h3 hbase fun k hk => (hown.lt k hk).1))

/-- A new block of one integer. -/
theorem IRow.one (w : World) (x : Int) : IRow (w.alloc (.cells #[.int .i64 x] 3)) (some ⟨w.heap.size, 0, none⟩) 1 [x] := by
  refine ⟨rfl, by unfold maxLen; omega, fun _ => ⟨w.heap.size, 0, rfl, by simp, fun j hj => ?_⟩⟩
  obtain rfl : j = 0 := by omega
  have hh : (w.alloc (.cells #[.int .i64 x] 3)).heap[w.heap.size]? = some (.cells #[.int .i64 x] 3) := by
    show (w.heap.push _)[w.heap.size]? = _
    simp
  exact cell_of_row _ _ _ #[.int .i64 x] _ _ hh
/-- append in a region that draws its order: what it answers. -/
theorem region_append_ints {yl : Nat → Option Bool} {o : Oper} {a : Act} {w w' : World} {K : Act → World → Prop} {Q : Exit → Act → World → Prop} {v v' y : Value} (hw : Region.wanted o yl = true) (s x : Operand)
    (ho : o.op = .call { callee := .builtin .append, args := #[s, x], argTypes := #[42, 42] }) (hs : a.eval s = v) (hx : a.eval x = y)
    (hrun : (Builtin.append_ #[42, 42] o.type #[v, y]).run Try.prog w = .ok v' w') (h : K (a.put o.dst v') w') : if Region.wanted o yl = true then Oper.wp Try.prog o a w K Q else K (a.put o.dst undef) w := by
  rw [if_pos hw]
  unfold Oper.wp execOp
  simp only [ho, resolve, invoke, builtin, Sem.run_bind, Sem.run_pure, Result.andThen_ok, List.map_toArray, List.map_cons, List.map_nil, hs, hx, hrun]
  exact h
/-- A row beside the one that grew. -/
theorem irow_grown {w w' : World} {row : Option Nat} {b o n : Nat} {l : List Int} (h : IRow w (some ⟨b, o, none⟩) n l) (hg : w.grownBy w' row) (hne : some b ≠ row) : IRow w' (some ⟨b, o, none⟩) n l := by
  refine ⟨h.1, h.2.1, fun h0 => ?_⟩
  obtain ⟨b', o', e, h1, hc⟩ := h.2.2 h0
  injection e with e; injection e with e1 e2; subst e1; subst e2
  exact ⟨b, o, rfl, Nat.lt_of_lt_of_le h1 hg.size, fun j hj => (World.cell?_of_block (w := w) (a := ⟨b, o + j, none⟩) (hg.block b h1 hne)).trans (hc j hj)⟩
theorem own_cap {w : World} {base n c : Nat} {e : TypeId} {A : Option Addr} {xs : List Value} (h : w.ownsRow base e 1 (.slice A n c) n xs) : c ≤ maxLen := by
  rcases h.2 with ⟨h1, _⟩ | ⟨g, cap, cur, h1, _, _, _, hcm, _, _⟩
  · injection h1 with _ _ h1; unfold maxLen; omega
  · injection h1 with _ _ h1; omega
end Go.Proofs.Ytpgfolfhfhfdhaa.Ints
