/-
  Rows of texts in memory: a slice of strings that reads as a list of lists of bytes (SRow), what the call itself made, append onto a row of the call's own. Conditions: as each states.
-/
import Derived.Test.YtnnmhamiegekpaaDoorNumMem
import Derived.Lib.BufferRead
namespace Go.Proofs.YtnnmhamiegekpaaDoor.Ident
open Go.RowKit Num

/-- A text's bytes. -/
def mk (l : List UInt8) : ByteArray := ⟨l.toArray⟩
theorem mk_list (l : List UInt8) : (mk l).data.toList = l := rfl
theorem mk_size (l : List UInt8) : (mk l).size = l.length := rfl
theorem mk_of (s : ByteArray) : mk s.data.toList = s := rfl

/-- Texts as cells. -/
def strs (xs : List (List UInt8)) : List Value := xs.map fun l => Value.string (mk l)
theorem strs_length (xs : List (List UInt8)) : (strs xs).length = xs.length := by simp [strs]
theorem strs_append (xs ys : List (List UInt8)) : strs (xs ++ ys) = strs xs ++ strs ys := by simp [strs]
theorem strs_one (xs : List (List UInt8)) : ∀ u ∈ strs xs, u.oneCell' = true := by
  intro u hu
  simp only [strs, List.mem_map] at hu
  obtain ⟨b, _, rfl⟩ := hu
  rfl
theorem strs_at (xs : List (List UInt8)) (j : Nat) (hj : j < xs.length) : (strs xs)[j]? = some (.string (mk (xs.getD j []))) := by
  simp [strs, List.getElem?_eq_getElem hj]

/-- The slice of n texts at A reads as the list xs; a slice without texts may lie anywhere. -/
def SRow (w : World) (A : Option Addr) (n : Nat) (xs : List (List UInt8)) : Prop :=
  xs.length = n ∧ (0 < n → ∃ b o, A = some ⟨b, o, none⟩ ∧ b < w.heap.size ∧ ∀ j, j < n → w.cell? ⟨b, o + j, none⟩ = some (.string (mk (xs.getD j []))))

theorem SRow.none_ (w : World) (A : Option Addr) : SRow w A 0 [] := ⟨rfl, fun h => by omega⟩
theorem SRow.kept {w w' : World} {A : Option Addr} {n : Nat} {xs : List (List UInt8)} (h : SRow w A n xs) (hb : Below w.heap.size w w') : SRow w' A n xs := by
  refine ⟨h.1, fun h0 => ?_⟩
  obtain ⟨b, o, e, hlt, hc⟩ := h.2 h0
  exact ⟨b, o, e, Nat.lt_of_lt_of_le hlt hb.size, fun j hj => (hb.cell (p := ⟨b, o + j, none⟩) hlt).trans (hc j hj)⟩
theorem SRow.nil {w : World} {n : Nat} {xs : List (List UInt8)} (h : SRow w none n xs) : n = 0 ∧ xs = [] := by
  rcases Nat.eq_zero_or_pos n with h0 | h0
  · exact ⟨h0, List.eq_nil_of_length_eq_zero (by rw [h.1]; exact h0)⟩
  · obtain ⟨b, o, e, _⟩ := h.2 h0
    cases e
theorem SRow.news {w : World} {ad : Addr} {n : Nat} {xs : List (List UInt8)} (h : SRow w (some ad) n xs) : ∀ j u, (strs xs)[j]? = some u → w.cell? (ad.add j) = some u := by
  intro j u hu
  have hj : j < xs.length := by
    have := (List.getElem?_eq_some_iff.1 hu).1
    rwa [strs_length] at this
  obtain ⟨b, o, e, _, hc⟩ := h.2 (by have := h.1; omega)
  injection e with e
  subst e
  rw [strs_at xs j hj] at hu
  injection hu with hu
  rw [add_none, hc j (by rw [← h.1]; exact hj), hu]
theorem SRow.of_own {w : World} {base : Nat} {v : Value} {n : Nat} {xs : List (List UInt8)} (h : w.ownsRow base 9 1 v n (strs xs)) :
    ∃ A c, v = .slice A n c ∧ n ≤ c ∧ SRow w A n xs := by
  have hl : xs.length = n := by have := h.1; rw [strs_length] at this; omega
  have hcs := fun g => h.cells (g := g)
  rcases h.2 with ⟨rfl, rfl⟩ | ⟨g, cap, cur, rfl, _, hg, hnc, hcm, _, _⟩
  · exact ⟨none, 0, rfl, Nat.le_refl _, hl, fun h0 => by omega⟩
  · refine ⟨_, cap, rfl, hnc, hl, fun h0 => ⟨g, 0, rfl, (Array.getElem?_eq_some_iff.1 hg).1, fun j hj => ?_⟩⟩
    have := hcs g rfl j _ (strs_at xs j (by omega))
    rwa [add_none] at this

/-- What the call owns is kept where nothing below has turned. -/
theorem own_below {w w' : World} {base : Nat} {e : TypeId} {size : Nat} {v : Value} {n : Nat} {xs : List Value} (h : w.ownsRow base e size v n xs) (hb : Below w.heap.size w w') : w'.ownsRow base e size v n xs :=
  h.kept (row := none) ⟨hb.os, hb.tape, hb.output, hb.size, fun i hi _ => hb.block i hi⟩ (by cases v.ownBlock <;> simp)

theorem strInfo : (Tryd.prog.info? 9).map (fun i => (i.zero, i.size, i.bytes)) = some (some (.string ⟨#[]⟩), 1, 16) := by kernel_rfl

theorem run_append_strs (w : World) (ty : TypeId) (base : Nat) (v : Value) (n : Nat) (xs : List (List UInt8)) (hown : w.ownsRow base 9 1 v n (strs xs))
    (A : Option Addr) (m c : Nat) (ys : List (List UInt8)) (hr : SRow w A m ys) (hnil : A = none → c = 0) (hb : (n + m) * 16 ≤ 140737488355328) (hbase : base ≤ w.heap.size) :
    ∃ v' w', (Builtin.append_ #[24, 24] ty #[v, .slice A m c]).run Tryd.prog w = .ok v' w' ∧ w'.ownsRow base 9 1 v' (n + m) (strs (xs ++ ys)) ∧ w.grownBy w' v.ownBlock := by
  obtain ⟨i, hi, hz, hs, hby⟩ := info_parts strInfo
  cases A with
  | none =>
    obtain ⟨rfl, rfl⟩ := hr.nil
    obtain rfl := hnil rfl
    exact ⟨v, w, run_append_owned_none (P := Tryd.prog) (w := w) base 24 ty 9 i 1 Tryd.underlying24 hi v n _ hown, by simpa using hown, World.grownBy.refl w _⟩
  | some ad =>
    obtain ⟨v', w', h1, h2, h3, _⟩ := run_append_own (P := Tryd.prog) w base 24 ty 9 i (.string ⟨#[]⟩) 1 16 Tryd.underlying24 hi hz hs hby rfl (by omega) v n _ hown ad m c (strs ys)
      (by rw [strs_length, hr.1]; omega) hr.news (strs_one ys) (by unfold maxLen; omega) hb hbase
    exact ⟨v', w', h1, by rw [strs_append]; exact h2, h3⟩

theorem wpList_append_strs (w : World) {ops : Array Oper} {rest : List Oper} {o : Oper} {a : Act} {Q : Exit → Act → World → Prop} (hgd : o.guard = none) (s x : Operand)
    (ho : o.op = .call { callee := .builtin .append, args := #[s, x], argTypes := #[24, 24] })
    (base : Nat) (v : Value) (n : Nat) (xs : List (List UInt8)) (hs : a.eval s = v) (hown : w.ownsRow base 9 1 v n (strs xs))
    (A : Option Addr) (m c : Nat) (ys : List (List UInt8)) (hx : a.eval x = .slice A m c) (hr : SRow w A m ys) (hnil : A = none → c = 0) (hb : (n + m) * 16 ≤ 140737488355328) (hbase : base ≤ w.heap.size)
    (h : ∀ v' w', w'.ownsRow base 9 1 v' (n + m) (strs (xs ++ ys)) → Below base w w' → wpList Tryd.prog ops Q rest (a.put o.dst v') w') : wpList Tryd.prog ops Q (o :: rest) a w := by
  refine wpList_plain hgd fun K hK => ?_
  obtain ⟨v', w', hrun, h2, h3⟩ := run_append_strs w o.type base v n xs hown A m c ys hr hnil hb hbase
  unfold Oper.wp execOp
  simp only [ho, resolve, invoke, builtin, Sem.run_bind, Sem.run_pure, Result.andThen_ok, List.map_toArray, List.map_cons, List.map_nil, hs, hx, hrun]
  exact hK _ _ (h v' w' h2 ((Below.refl base w).grown h3 hbase fun k hk => (hown.lt k hk).1))

/-- A new block of one text. -/
theorem SRow.one (w : World) (l : List UInt8) : SRow (w.alloc (.cells #[.string (mk l)] 9)) (some ⟨w.heap.size, 0, none⟩) 1 [l] := by
  refine ⟨rfl, fun _ => ⟨w.heap.size, 0, rfl, by simp, fun j hj => ?_⟩⟩
  obtain rfl : j = 0 := by omega
  have hh : (w.alloc (.cells #[.string (mk l)] 9)).heap[w.heap.size]? = some (.cells #[.string (mk l)] 9) := by
    show (w.heap.push _)[w.heap.size]? = _
    simp
  exact cell_of_row _ _ _ #[.string (mk l)] _ _ hh

/-- string(b). -/
theorem run_text {w : World} {A : Option Addr} {n : Nat} {l : List UInt8} (h : Row w A n l) (c : Nat) :
    (convert 22 9 (.slice A n c)).run Tryd.prog w = .ok (.string (mk l)) w := by
  cases A with
  | none =>
    obtain ⟨rfl, rfl⟩ := h.nil
    exact Lib.run_convert_nil_bytes (P := Tryd.prog) w 22 9 5 c Tryd.underlying22 Tryd.underlying5 Tryd.underlying9
  | some ad =>
    have e := run_convert_bytes_back (P := Tryd.prog) w 22 9 5 ad c l Tryd.underlying22 Tryd.underlying5 Tryd.underlying9 (fun j hj => by
      have := h.news j _ (cells_at l j hj)
      rw [this]; unfold byteAt; simp [List.getElem?_eq_getElem hj])
    rwa [h.1] at e

/-- Where b[k:] lies. -/
theorem Row.from_ {w : World} {A A' : Option Addr} {n : Nat} {l : List UInt8} (h : Row w A n l) (k c : Nat) (hk : k ≤ n) (hc : n ≤ c) (hA : (if c = k then A else A.map (fun x => x.add k)) = A') : Row w A' (n - k) (l.drop k) := by
  have := h.piece (A' := A') k (n - k) (by omega) (fun h0 b o e => by rw [← hA, if_neg (by omega)]; exact map_add k A b o e)
  rwa [List.take_of_length_le (by rw [List.length_drop, h.1]; exact Nat.le_refl _)] at this
/-- Where b[k:k+m] lies. -/
theorem Row.part_ {w : World} {A A' : Option Addr} {n : Nat} {l : List UInt8} (h : Row w A n l) (k m c : Nat) (hk : k + m ≤ n) (hc : n ≤ c) (hA : (if c = k then A else A.map (fun x => x.add k)) = A') : Row w A' m ((l.drop k).take m) :=
  h.piece (A' := A') k m hk (fun h0 b o e => by rw [← hA, if_neg (by omega)]; exact map_add k A b o e)
end Go.Proofs.YtnnmhamiegekpaaDoor.Ident
