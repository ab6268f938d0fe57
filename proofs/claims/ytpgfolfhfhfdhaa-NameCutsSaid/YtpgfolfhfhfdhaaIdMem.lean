/-
  Rows of texts in memory: a slice of strings that reads as a list of lists of bytes (SRow), what the call itself made, append onto a row of the call's own. Conditions: as each states.
-/
import Derived.Test.YtpgfolfhfhfdhaaNumMem
import Derived.Lib.BufferRead
namespace Go.Proofs.Ytpgfolfhfhfdhaa.Ident
open Go.RowKit Num

/-- A text's bytes. -/
def mk (l : List UInt8) : ByteArray := ⟨l.toArray⟩
theorem mk_list (l : List UInt8) : (mk l).data.toList = l := rfl
theorem mk_size (l : List UInt8) : (mk l).size = l.length := rfl
theorem mk_of (s : ByteArray) : mk s.data.toList = s := rfl

/-- Texts as cells. -/
def strs (xs : List (List UInt8)) : List Value := xs.map fun l => Value.string (mk l)
theorem strs_length (xs : List (List UInt8)) : (strs xs).length = xs.length := by simp [strs]
theorem strs_append (xs ys : List (List UInt8)) : strs (xs ++ ys) = strs xs ++ strs ys := by simp [strs]
theorem strs_one (xs : List (List UInt8)) : ∀ u ∈ strs xs, u.oneCell' = true := by
  intro u hu
  simp only [strs, List.mem_map] at hu
  obtain ⟨b, _, rfl⟩ := hu
  rfl
theorem strs_at (xs : List (List UInt8)) (j : Nat) (hj : j < xs.length) : (strs xs)[j]? = some (.string (mk (xs.getD j []))) := by
  simp [strs, List.getElem?_eq_getElem hj]

/-- The slice of n texts at A reads as the list xs; a slice without texts may lie anywhere. -/
def SRow (w : World) (A : Option Addr) (n : Nat) (xs : List (List UInt8)) : Prop :=
  xs.length = n ∧ (0 < n → ∃ b o, A = some ⟨b, o, none⟩ ∧ b < w.heap.size ∧ ∀ j, j < n → w.cell? ⟨b, o + j, none⟩ = some (.string (mk (xs.getD j []))))

theorem SRow.none_ (w : World) (A : Option Addr) : SRow w A 0 [] := ⟨rfl, fun h => by omega⟩
theorem SRow.kept {w w' : World} {A : Option Addr} {n : Nat} {xs : List (List UInt8)} (h : SRow w A n xs) (hb : Below w.heap.size w w') : SRow w' A n xs := by
  refine ⟨h.1, fun h0 => ?_⟩
  obtain ⟨b, o, e, hlt, hc⟩ := h.2 h0
  exact ⟨b, o, e, Nat.lt_of_lt_of_le hlt hb.size, fun j hj => (hb.cell (p := ⟨b, o + j, none⟩) hlt).trans (hc j hj)⟩
theorem SRow.nil {w : World} {n : Nat} {xs : List (List UInt8)} (h : SRow w none n xs) : n = 0 ∧ xs = [] := by
  rcases Nat.eq_zero_or_pos n with h0 | h0
  · exact ⟨h0, List.eq_nil_of_length_eq_zero (by rw [h.1]; exact h0)⟩
  · obtain ⟨b, o, e, _⟩ := h.2 h0
    cases e
theorem SRow.news {w : World} {ad : Addr} {n : Nat} {xs : List (List UInt8)} (h : SRow w (some ad) n xs) : ∀ j u, (strs xs)[j]? = some u → w.cell? (ad.add j) = some u := by
  intro j u hu
  have hj : j < xs.length := by
    have := (List.getElem?_eq_some_iff.1 hu).1
    rwa [strs_length] at this
  obtain ⟨b, o, e, _, hc⟩ := h.2 (by have := h.1; omega)
  injection e with e
  subst e
  rw [strs_at xs j hj] at hu
  injection hu with hu
  rw [add_none, hc j (by rw [← h.1]; exact hj), hu]
theorem SRow.of_own {w : World} {base : Nat} {v : Value} {n : Nat} {xs : List (List UInt8)} (h : w.ownsRow base 9 1 v n (strs xs)) :
    ∃ A c, v = .slice A n c ∧ n ≤ c ∧ SRow w A n xs := by
  have hl : xs.length = n := by have := h.1; rw [strs_length] at this; omega
  have hcs := fun g => h.cells (g := g)
  rcases h.2 with ⟨rfl, rfl⟩ | ⟨g, cap, cur, rfl, _, hg, hnc, hcm, _, _⟩
  · exact ⟨none, 0, rfl, Nat.le_refl _, hl, fun h0 => by omega⟩
  · refine ⟨_, cap, rfl, hnc, hl, fun h0 => ⟨g, 0, rfl, (Array.getElem?_eq_some_iff.1 hg).1, fun j hj => ?_⟩⟩
    have := hcs g rfl j _ (strs_at xs j (by omega))
    rwa [add_none] at this

/-- What the call owns is kept where nothing below has turned. -/
theorem own_below {w w' : World} {base : Nat} {e : TypeId} {size : Nat} {v : Value} {n : Nat} {xs : List Value} (h : w.ownsRow base e size v n xs) (hb : Below w.heap.size w w') : w'.ownsRow base e size v n xs :=
  h.kept (row := none) ⟨hb.os, hb.tape, hb.output, hb.size, fun i hi _ => hb.block i hi⟩ (by cases v.ownBlock <;> simp)

theorem strInfo : (Try.prog.info? 9).map (fun i => (i.zero, i.size, i.bytes)) = some (some (.string ⟨#[]⟩), 1, 16) := by kernel_rfl

theorem run_append_strs (w : World) (ty : TypeId) (base : Nat) (v : Value) (n : Nat) (xs : List (List UInt8)) (hown : w.ownsRow base 9 1 v n (strs xs))
    (A : Option Addr) (m c : Nat) (ys : List (List UInt8)) (hr : SRow w A m ys) (hnil : A = none → c = 0) (hb : (n + m) * 16 ≤ 140737488355328) (hbase : base ≤ w.heap.size) :
    ∃ v' w', (Builtin.append_ #[31, 31] ty #[v, .slice A m c]).run Try.prog w = .ok v' w' ∧ w'.ownsRow base 9 1 v' (n + m) (strs (xs ++ ys)) ∧ w.grownBy w' v.ownBlock := by
  obtain ⟨i, hi, hz, hs, hby⟩ := info_parts strInfo
  cases A with
  | none =>
    obtain ⟨rfl, rfl⟩ := hr.nil
    obtain rfl := hnil rfl
    exact ⟨v, w, run_append_owned_none (P := Try.prog) (w := w) base 31 ty 9 i 1 Try.underlying31 hi v n _ hown, by simpa using hown, World.grownBy.refl w _⟩
  | some ad =>
    obtain ⟨v', w', h1, h2, h3, _⟩ := run_append_own (P := Try.prog) w base 31 ty 9 i (.string ⟨#[]⟩) 1 16 Try.underlying31 hi hz hs hby rfl (by omega) v n _ hown ad m c (strs ys)
      (by rw [strs_length, hr.1]; omega) hr.news (strs_one ys) (by unfold maxLen; omega) hb hbase
    exact ⟨v', w', h1, by rw [strs_append]; exact h2, h3⟩

theorem wpList_append_strs (w : World) {ops : Array Oper} {rest : List Oper} {o : Oper} {a : Act} {Q : Exit → Act → World → Prop} (hgd : o.guard = none) (s x : Operand)
    (ho : o.op = .call { callee := .builtin .append, args := #[s, x], argTypes := #[31, 31] })
    (base : Nat) (v : Value) (n : Nat) (xs : List (List UInt8)) (hs : a.eval s = v) (hown : w.ownsRow base 9 1 v n (strs xs))
    (A : Option Addr) (m c : Nat) (ys : List (List UInt8)) (hx : a.eval x = .slice A m c) (hr : SRow w A m ys) (hnil : A = none → c = 0) (hb : (n + m) * 16 ≤ 140737488355328) (hbase : base ≤ w.heap.size)
    (h : ∀ v' w', w'.ownsRow base 9 1 v' (n + m) (strs (xs ++ ys)) → Below base w w' → wpList Try.prog ops Q rest (a.put o.dst v') w') : wpList Try.prog ops Q (o :: rest) a w := by
  refine wpList_plain hgd fun K hK => ?_
  obtain ⟨v', w', hrun, h2, h3⟩ := run_append_strs w o.type base v n xs hown A m c ys hr hnil hb hbase
  unfold Oper.wp execOp
  simp only [ho, resolve, invoke, builtin, Sem.run_bind, Sem.run_pure, Result.andThen_ok, List.map_toArray, List.map_cons, List.map_nil, hs, hx, hrun]
  exact hK _ _ (h v' w' h2 ((Below.refl base w).grown h3 hbase fun k hk => (hown.lt k hk).1))

/-- A new block of one text. -/
theorem SRow.one (w : World) (l : List UInt8) : SRow (w.alloc (.cells #[.string (mk l)] 9)) (some ⟨w.heap.size, 0, none⟩) 1 [l] := by
  refine ⟨rfl, fun _ => ⟨w.heap.size, 0, rfl, by simp, fun j hj => ?_⟩⟩
  obtain rfl : j = 0 := by omega
  have hh : (w.alloc (.cells #[.string (mk l)] 9)).heap[w.heap.size]? = some (.cells #[.string (mk l)] 9) := by
    show (w.heap.push _)[w.heap.size]? = _
    simp
  exact cell_of_row _ _ _ #[.string (mk l)] _ _ hh

/-- string(b). -/
theorem run_text {w : World} {A : Option Addr} {n : Nat} {l : List UInt8} (h : Row w A n l) (c : Nat) :
    (convert 22 9 (.slice A n c)).run Try.prog w = .ok (.string (mk l)) w := by
  cases A with
  | none =>
    obtain ⟨rfl, rfl⟩ := h.nil
    exact Lib.run_convert_nil_bytes (P := Try.prog) w 22 9 5 c Try.underlying22 Try.underlying5 Try.underlying9
  | some ad =>
    have e := run_convert_bytes_back (P := Try.prog) w 22 9 5 ad c l Try.underlying22 Try.underlying5 Try.underlying9 (fun j hj => by
      have := h.news j _ (cells_at l j hj)
      rw [this]; unfold byteAt; simp [List.getElem?_eq_getElem hj])
    rwa [h.1] at e

/-- Where b[k:] lies. -/
theorem Row.from_ {w : World} {A A' : Option Addr} {n : Nat} {l : List UInt8} (h : Row w A n l) (k c : Nat) (hk : k ≤ n) (hc : n ≤ c) (hA : (if c = k then A else A.map (fun x => x.add k)) = A') : Row w A' (n - k) (l.drop k) := by
  have := h.piece (A' := A') k (n - k) (by omega) (fun h0 b o e => by rw [← hA, if_neg (by omega)]; exact map_add k A b o e)
  rwa [List.take_of_length_le (by rw [List.length_drop, h.1]; exact Nat.le_refl _)] at this
/-- Where b[k:k+m] lies. -/
theorem Row.part_ {w : World} {A A' : Option Addr} {n : Nat} {l : List UInt8} (h : Row w A n l) (k m c : Nat) (hk : k + m ≤ n) (hc : n ≤ c) (hA : (if c = k then A else A.map (fun x => x.add k)) = A') : Row w A' m ((l.drop k).take m) :=
  h.piece (A' := A') k m hk (fun h0 b o e => by rw [← hA, if_neg (by omega)]; exact map_add k A b o e)

/-- Are two rows the same? -/
def sameB (xs ys : List (List UInt8)) : Bool := xs == ys
theorem sameB_iff (xs ys : List (List UInt8)) : sameB xs ys = true ↔ xs = ys := by simp [sameB]
theorem sameB_no {xs ys : List (List UInt8)} (h : xs ≠ ys) : sameB xs ys = false := by simp [sameB, h]

/-- A store into a cell that holds no text leaves rows of texts as they are. -/
theorem SRow.set {w : World} {A : Option Addr} {n : Nat} {xs : List (List UInt8)} (h : SRow w A n xs) {p : Addr} {u : Value} (hu : w.cell? p = some u) (hs : ∀ s, u ≠ .string s) (v : Value) : SRow (w.setCell p v) A n xs := by
  refine ⟨h.1, fun h0 => ?_⟩
  obtain ⟨b, o, e, hlt, hc⟩ := h.2 h0
  refine ⟨b, o, e, by simpa using hlt, fun j hj => ?_⟩
  rw [World.cell?_setCell_other]
  · exact hc j hj
  · intro he
    rw [he, hc j hj] at hu
    injection hu with hu
    exact hs _ hu.symm
theorem cell_beside (w : World) (b i j : Nat) (v : Value) (h : i ≠ j) : (w.setCell ⟨b, i, none⟩ v).cell? ⟨b, j, none⟩ = w.cell? ⟨b, j, none⟩ :=
  World.cell?_setCell_other _ _ _ _ (by intro e; injection e with _ e; exact h e)
/-- Five stores, one behind the other. -/
theorem SRow.set5 {w : World} {A : Option Addr} {n : Nat} {xs : List (List UInt8)} (h : SRow w A n xs) {b : Nat} {u0 u1 u2 u3 u4 : Value}
    (h0 : w.cell? ⟨b, 0, none⟩ = some u0) (h1 : w.cell? ⟨b, 1, none⟩ = some u1) (h2 : w.cell? ⟨b, 2, none⟩ = some u2) (h3 : w.cell? ⟨b, 3, none⟩ = some u3) (h4 : w.cell? ⟨b, 4, none⟩ = some u4)
    (s0 : ∀ s, u0 ≠ .string s) (s1 : ∀ s, u1 ≠ .string s) (s2 : ∀ s, u2 ≠ .string s) (s3 : ∀ s, u3 ≠ .string s) (s4 : ∀ s, u4 ≠ .string s) (v0 v1 v2 v3 v4 : Value) :
    SRow (((((w.setCell ⟨b, 0, none⟩ v0).setCell ⟨b, 1, none⟩ v1).setCell ⟨b, 2, none⟩ v2).setCell ⟨b, 3, none⟩ v3).setCell ⟨b, 4, none⟩ v4) A n xs := by
  refine SRow.set (SRow.set (SRow.set (SRow.set (SRow.set h h0 s0 v0) (u := u1) ?_ s1 v1) (u := u2) ?_ s2 v2) (u := u3) ?_ s3 v3) (u := u4) ?_ s4 v4
  · exact (cell_beside _ _ _ _ _ (by omega)).trans h1
  · exact (cell_beside _ _ _ _ _ (by omega)).trans ((cell_beside _ _ _ _ _ (by omega)).trans h2)
  · exact (cell_beside _ _ _ _ _ (by omega)).trans ((cell_beside _ _ _ _ _ (by omega)).trans ((cell_beside _ _ _ _ _ (by omega)).trans h3))
  · exact (cell_beside _ _ _ _ _ (by omega)).trans ((cell_beside _ _ _ _ _ (by omega)).trans ((cell_beside _ _ _ _ _ (by omega)).trans ((cell_beside _ _ _ _ _ (by omega)).trans h4)))

/-- A block of 5 cells, none frozen. -/
def At5 (W : World) (b : Nat) (u0 u1 u2 u3 u4 : Value) : Prop := b < W.heap.size ∧ (∀ o, W.frozen? ⟨b, o, none⟩ = false) ∧ W.cell? ⟨b, 0, none⟩ = some u0 ∧ W.cell? ⟨b, 1, none⟩ = some u1 ∧ W.cell? ⟨b, 2, none⟩ = some u2 ∧ W.cell? ⟨b, 3, none⟩ = some u3 ∧ W.cell? ⟨b, 4, none⟩ = some u4
theorem At5.new (w : World) (t : TypeId) (u0 u1 u2 u3 u4 : Value) : At5 (w.alloc (.cells #[u0, u1, u2, u3, u4] t)) w.heap.size u0 u1 u2 u3 u4 := by
  unfold At5
  refine ⟨by simp, fun o => by simp [go_sem], ?_, ?_, ?_, ?_, ?_⟩ <;> simp [go_sem]
theorem At5.kept {W W' : World} {b B : Nat} {u0 u1 u2 u3 u4 : Value} (h : At5 W b u0 u1 u2 u3 u4) (hb : Below B W W') (hB : b < B) : At5 W' b u0 u1 u2 u3 u4 := by
  obtain ⟨h1, h2, c0, c1, c2, c3, c4⟩ := h
  exact ⟨Nat.lt_of_lt_of_le h1 hb.size, fun o => (hb.frozen (p := ⟨b, o, none⟩) hB).trans (h2 o), (hb.cell (p := ⟨b, 0, none⟩) hB).trans c0, (hb.cell (p := ⟨b, 1, none⟩) hB).trans c1, (hb.cell (p := ⟨b, 2, none⟩) hB).trans c2, (hb.cell (p := ⟨b, 3, none⟩) hB).trans c3, (hb.cell (p := ⟨b, 4, none⟩) hB).trans c4⟩

/-- A block of 3 cells, none frozen. -/
def At3 (W : World) (b : Nat) (u0 u1 u2 : Value) : Prop := b < W.heap.size ∧ (∀ o, W.frozen? ⟨b, o, none⟩ = false) ∧ W.cell? ⟨b, 0, none⟩ = some u0 ∧ W.cell? ⟨b, 1, none⟩ = some u1 ∧ W.cell? ⟨b, 2, none⟩ = some u2
theorem At3.new (w : World) (t : TypeId) (u0 u1 u2 : Value) : At3 (w.alloc (.cells #[u0, u1, u2] t)) w.heap.size u0 u1 u2 := by
  unfold At3
  refine ⟨by simp, fun o => by simp [go_sem], ?_, ?_, ?_⟩ <;> simp [go_sem]
theorem At3.kept {W W' : World} {b B : Nat} {u0 u1 u2 : Value} (h : At3 W b u0 u1 u2) (hb : Below B W W') (hB : b < B) : At3 W' b u0 u1 u2 := by
  obtain ⟨h1, h2, c0, c1, c2⟩ := h
  exact ⟨Nat.lt_of_lt_of_le h1 hb.size, fun o => (hb.frozen (p := ⟨b, o, none⟩) hB).trans (h2 o), (hb.cell (p := ⟨b, 0, none⟩) hB).trans c0, (hb.cell (p := ⟨b, 1, none⟩) hB).trans c1, (hb.cell (p := ⟨b, 2, none⟩) hB).trans c2⟩
/-- Five stores, one behind the other, over a world. -/
def set5 (w : World) (b : Nat) (v0 v1 v2 v3 v4 : Value) : World := ((((w.setCell ⟨b, 0, none⟩ v0).setCell ⟨b, 1, none⟩ v1).setCell ⟨b, 2, none⟩ v2).setCell ⟨b, 3, none⟩ v3).setCell ⟨b, 4, none⟩ v4
theorem At5.set5 {W : World} {b : Nat} {u0 u1 u2 u3 u4 : Value} (h : At5 W b u0 u1 u2 u3 u4) (v0 v1 v2 v3 v4 : Value) : At5 (set5 W b v0 v1 v2 v3 v4) b v0 v1 v2 v3 v4 := by
  obtain ⟨h1, h2, c0, c1, c2, c3, c4⟩ := h
  unfold Ident.set5
  refine ⟨by simpa using h1, fun o => by simp [go_sem, h2], ?_, ?_, ?_, ?_, ?_⟩ <;> simp [go_sem, c0, c1, c2, c3, c4]
end Go.Proofs.Ytpgfolfhfhfdhaa.Ident
