/-
  A table of names in memory (TabAt): the struct's block, its map, its list; what is carried over a step beside it. Conditions: as each states.
-/
import Derived.Test.YtpgfolfhfhfdhaaNaMap
import Derived.Test.YtpgfolfhfhfdhaaFrame
import Derived.Test.YtpgfolfhfhfdhaaIdMem
import Derived.Maps.AppendAt
namespace Go.Proofs.Ytpgfolfhfhfdhaa.Name
open Go.RowKit Num Ident Fr
open Go.Maps (Keyed)

theorem strKeyed : Keyed Try.prog 9 := Go.Maps.string_keyed Try.underlying9
theorem strKey {s : ByteArray} (h : s.size ≤ maxLen) : keyOf Try.prog 9 (.string s) = some (.string s.data.toList) := Go.WideMaps.keyOf_string_mk Try.underlying9 h
/-- The table's map: none yet, or one of the table's own. -/
def MapAt (W : World) (T : Nat → Prop) (m : Value) (x : List (List UInt8)) : Prop :=
  (m = .map none ∧ x = []) ∨ ∃ (mb : Nat) (D : DataW Unit), m = .map (some mb) ∧ T mb ∧ W.ownsMap Try.prog 9 (plainElem Try.prog 3) mb x.length D ∧ Numbers D x
/-- A table whose names are x, in blocks of T. -/
structure TabAt (W : World) (tb : Nat) (T : Nat → Prop) (x : List (List UInt8)) : Prop where
  nodup : x.Nodup
  name : ∀ s ∈ x, isName s = true
  few : x.length ≤ 4096
  own : T tb
  lt : ∀ b, T b → b < W.heap.size
  at_ : ∃ m v, At2 W tb m v ∧ MapAt W T m x ∧ W.ownsRow 0 9 1 v x.length (strs x) ∧ (∀ b, v.ownBlock = some b → T b ∧ b ≠ tb) ∧ (∀ b, m = .map (some b) → b ≠ tb)
theorem TabAt.but {W W' : World} {tb : Nat} {T T' : Nat → Prop} {x : List (List UInt8)} (h : TabAt W tb T x) (hb : But T' W W') (hn : ∀ b, T b → ¬ T' b) : TabAt W' tb T x := by
  obtain ⟨m, v, h2, hm, hv, ho, hne⟩ := h.at_
  refine ⟨h.nodup, h.name, h.few, h.own, fun b g => Nat.lt_of_lt_of_le (h.lt b g) hb.size, m, v, h2.but hb (hn tb h.own), ?_, own_but hv hb (fun b e => hn b (ho b e).1), ho, hne⟩
  rcases hm with hm | ⟨mb, D, e, ht, h1, h3⟩
  · exact .inl hm
  · exact .inr ⟨mb, D, e, ht, map_but h1 hb (hn mb ht), h3⟩
/-- The zero table. -/
theorem TabAt.new (w : World) (t : TypeId) : TabAt (w.alloc (.cells #[.map none, .slice none 0 0] t)) w.heap.size (fun k => k = w.heap.size) [] :=
  ⟨List.nodup_nil, fun s h => (List.not_mem_nil h).elim, Nat.zero_le _, rfl, (fun b g => by subst g; simp), _, _, At2.new w t _ _, .inl ⟨rfl, rfl⟩, World.ownsRow_nil _ 0 _ _, (fun b e => by cases e), fun b e => by cases e⟩
/-- What Add answers, and leaves. -/
def addE (x : List (List UInt8)) (s : List UInt8) : Int := if isName s = false then 12 else if s ∈ x then 0 else if 4096 ≤ x.length then 9 else 0
def addN (x : List (List UInt8)) (s : List UInt8) : Int := if isName s = false then 0 else if s ∈ x then ((find x s : Nat) : Int) else if 4096 ≤ x.length then 0 else (x.length : Int)
def addX (x : List (List UInt8)) (s : List UInt8) : List (List UInt8) := if isName s = false then x else if s ∈ x then x else if 4096 ≤ x.length then x else x ++ [s]
def AddPost (W : World) (tb : Nat) (T : Nat → Prop) (x : List (List UInt8)) (s : List UInt8) (e : Ending) (W' : World) : Prop :=
  e = .returned (.tuple #[.int .i64 (addN x s), .int .i64 (addE x s)]) ∧ ∃ T' : Nat → Prop, TabAt W' tb T' (addX x s) ∧ (∀ b, T' b → T b ∨ W.heap.size ≤ b) ∧ But T W W'
theorem addX_new {x : List (List UInt8)} {s : List UInt8} (h1 : isName s = true) (h2 : s ∉ x) (h3 : x.length < 4096) : addX x s = x ++ [s] ∧ addE x s = 0 ∧ addN x s = x.length := by
  unfold addX addE addN; simp [h1, h2, Nat.not_le.2 h3]
theorem addX_old {x : List (List UInt8)} {s : List UInt8} (h1 : isName s = true) (h2 : s ∈ x) : addX x s = x ∧ addE x s = 0 ∧ addN x s = (find x s : Nat) := by
  unfold addX addE addN; simp [h1, h2]
theorem addX_full {x : List (List UInt8)} {s : List UInt8} (h1 : isName s = true) (h2 : s ∉ x) (h3 : ¬ x.length < 4096) : addX x s = x ∧ addE x s = 9 ∧ addN x s = 0 := by
  unfold addX addE addN; simp [h1, h2]; omega
theorem addX_bad {x : List (List UInt8)} {s : List UInt8} (h1 : isName s = false) : addX x s = x ∧ addE x s = 12 ∧ addN x s = 0 := by
  unfold addX addE addN; simp [h1]
theorem isName_len {s : List UInt8} (h : isName s = true) : s.length ≤ 255 := ((isName_iff s).1 h).2.2
theorem run_append_name (w : World) (ty : TypeId) (v : Value) (n : Nat) (xs : List (List UInt8)) (hown : w.ownsRow 0 9 1 v n (strs xs))
    (ad : Addr) (c : Nat) (y : List UInt8) (hr : SRow w (some ad) 1 [y]) (hn : n ≤ 100000) :
    ∃ v' w', (Builtin.append_ #[31, 31] ty #[v, .slice (some ad) 1 c]).run Try.prog w = .ok v' w' ∧ w'.ownsRow 0 9 1 v' (n + 1) (strs (xs ++ [y])) ∧ w.grownBy w' v.ownBlock ∧ (v'.ownBlock = v.ownBlock ∨ v'.ownBlock = some w.heap.size) := by
  obtain ⟨i, hi, hz, hs, hby⟩ := info_parts strInfo
  obtain ⟨v', w', h1, h2, h3, _, h5⟩ := run_append_own_at (P := Try.prog) w 0 31 ty 9 i (.string ⟨#[]⟩) 1 16 Try.underlying31 hi hz hs hby rfl (by omega) v n _ hown ad 1 c (strs [y])
    (by rw [strs_length]; rfl) hr.news (strs_one [y]) (by unfold maxLen; omega) (by omega) (Nat.zero_le _)
  exact ⟨v', w', h1, by rw [strs_append]; exact h2, h3, h5⟩
theorem wpList_append_name (w : World) {ops : Array Oper} {rest : List Oper} {o : Oper} {a : Act} {Q : Exit → Act → World → Prop} (hgd : o.guard = none) (s x : Operand)
    (ho : o.op = .call { callee := .builtin .append, args := #[s, x], argTypes := #[31, 31] })
    (v : Value) (n : Nat) (xs : List (List UInt8)) (hs : a.eval s = v) (hown : w.ownsRow 0 9 1 v n (strs xs))
    (ad : Addr) (c : Nat) (y : List UInt8) (hx : a.eval x = .slice (some ad) 1 c) (hr : SRow w (some ad) 1 [y]) (hn : n ≤ 100000)
    (h : ∀ v' w', w'.ownsRow 0 9 1 v' (n + 1) (strs (xs ++ [y])) → w.grownBy w' v.ownBlock → (v'.ownBlock = v.ownBlock ∨ v'.ownBlock = some w.heap.size) → wpList Try.prog ops Q rest (a.put o.dst v') w') : wpList Try.prog ops Q (o :: rest) a w := by
  refine wpList_plain hgd fun K hK => ?_
  obtain ⟨v', w', hrun, h2, h3, h4⟩ := run_append_name w o.type v n xs hown ad c y hr hn
  unfold Oper.wp execOp
  simp only [ho, resolve, invoke, builtin, Sem.run_bind, Sem.run_pure, Result.andThen_ok, List.map_toArray, List.map_cons, List.map_nil, hs, hx, hrun]
  exact hK _ _ (h v' w' h2 h3 h4)
end Go.Proofs.Ytpgfolfhfhfdhaa.Name
