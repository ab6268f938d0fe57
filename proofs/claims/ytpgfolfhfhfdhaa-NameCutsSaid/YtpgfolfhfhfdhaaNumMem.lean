/-
  Bytes in memory: a slice that reads as a list of bytes (Row), pieces of it, a new block of bytes, append onto a row of the call's own (the source nil, empty or not), what came in as a list of bytes; a jump back to a label. Conditions: as each states.
-/
import Derived.Test.YtpgfolfhfhfdhaaChecked
import Derived.Test.YtpgfolfhfhfdhaaNumMath
import Derived.WalkKit
import Derived.WalkMore
import Derived.ScopeJumps
import Derived.Outline
import Derived.IntWalk
import Derived.Lib.Hide
import Derived.WalkLawsBesides
import Derived.Lib.SlBytesConst
import Derived.Lib.Strings
import Derived.Maps.AppendAt
import Derived.OwnWalk
import Derived.Laws.AppendOwnNone
namespace Go.Proofs.Ytpgfolfhfhfdhaa.Num
open Go.RowKit

/-- The byte at a place, as the walk reads it. -/
def byteAt (l : List UInt8) (j : Nat) : Int := ((l.getD j 0).toNat : Int)
theorem byteAt_bd (l : List UInt8) (j : Nat) : 0 ≤ byteAt l j ∧ byteAt l j ≤ 255 := by
  have := (l.getD j 0).toNat_lt; unfold byteAt; omega
theorem isDig_at (l : List UInt8) (j : Nat) : isDig (l.getD j 0) = true ↔ 48 ≤ byteAt l j ∧ byteAt l j ≤ 57 := by
  rw [isDig_iff]; unfold byteAt; omega

/-- The slice of n bytes at A reads as the list l; a slice without bytes may lie anywhere. -/
def Row (w : World) (A : Option Addr) (n : Nat) (l : List UInt8) : Prop :=
  l.length = n ∧ n ≤ maxLen ∧ (0 < n → ∃ b o, A = some ⟨b, o, none⟩ ∧ b < w.heap.size ∧ ∀ j, j < n → w.cell? ⟨b, o + j, none⟩ = some (.int .u8 (byteAt l j)))

/-- A jump back to the label l, told at the label: what holds there (J), a measure, the pass from the label, and the way up to the label. -/
theorem wp_scope_back {P : Program} {a : Act} {w : World} {Q : Exit → Act → World → Prop} {c rest : Code} (l : Nat) (J : Act → World → Prop) (μ : Act → World → Nat) (hf : findLabel c l = some (Code.skip.seq rest))
    (pass : ∀ a w, J a w → rest.wp P (Exit.jump l (fun a' w' => J a' w' ∧ μ a' w' < μ a w) Q) a w)
    (first : Hid (∀ a w, J a w → rest.wp P (Exit.jump l J Q) a w) → c.wp P (Exit.jump l J Q) a w) : (Code.scope c).wp P Q a w :=
  wp_scope_jumps l J μ hf (first fun a w h => wp_mono (pass a w h) (fun e _ _ hq => by cases e <;> first | exact hq | exact ⟨hq.1, hq.2.1⟩)) (fun a w h => wp_seq (wp_skip (pass a w h)))

theorem ret_int {k : IntKind} {a b : Int} (h : a = b) : Ending.returned (.int k a) = .returned (.int k b) := by rw [h]

/-- A piece of a slice reads as the piece of the list. -/
theorem Row.piece {w : World} {A A' : Option Addr} {n : Nat} {l : List UInt8} (h : Row w A n l) (p m : Nat) (hp : p + m ≤ n)
    (hA : 0 < m → ∀ b o, A = some ⟨b, o, none⟩ → A' = some ⟨b, o + p, none⟩) : Row w A' m ((l.drop p).take m) := by
  obtain ⟨hl, hm, hc⟩ := h
  refine ⟨by rw [List.length_take, List.length_drop]; omega, by omega, fun h0 => ?_⟩
  obtain ⟨b, o, e, hb, hcell⟩ := hc (by omega)
  refine ⟨b, o + p, hA h0 b o e, hb, fun j hj => ?_⟩
  have e1 : byteAt ((l.drop p).take m) j = byteAt l (p + j) := by
    unfold byteAt; simp [List.getD, hj]
  rw [e1, Nat.add_assoc]; exact hcell (p + j) (by omega)

theorem map_add (p : Nat) (A : Option Addr) (b o : Nat) (e : A = some ⟨b, o, none⟩) : A.map (fun x => x.add p) = some ⟨b, o + p, none⟩ := by
  subst e
  by_cases h : p = 0
  · subst h; simp [Addr.add]
  · simp [Addr.add, h]


theorem size_alloc (w : World) (o : Obj) : (w.alloc o).heap.size = w.heap.size + 1 := by simp

/-- A new block of bytes reads as its list. -/
theorem Row.new (w : World) (l : List UInt8) (C : Array Value) (t : TypeId) (fr : Nat × Nat) (hC : C.toList = l.map (fun b => Value.int .u8 (b.toNat : Int))) (hm : l.length ≤ maxLen) :
    Row (w.alloc (.cells C t fr)) (some ⟨w.heap.size, 0, none⟩) l.length l := by
  refine ⟨rfl, hm, fun _ => ⟨w.heap.size, 0, rfl, by simp, fun j hj => ?_⟩⟩
  have hh : (w.alloc (.cells C t fr)).heap[w.heap.size]? = some (.cells C t fr) := by
    show (w.heap.push _)[w.heap.size]? = _
    simp
  have e1 : (w.alloc (.cells C t fr)).cell? ⟨w.heap.size, 0 + j, none⟩ = C[0 + j]? := cell_of_row _ _ _ C t fr hh
  rw [e1, Nat.zero_add, ← Array.getElem?_toList, hC]
  unfold byteAt
  simp [List.getElem?_eq_getElem hj]


/-- Bytes as cells. -/
def cells (l : List UInt8) : List Value := l.map fun b => Value.int .u8 (b.toNat : Int)
theorem cells_length (l : List UInt8) : (cells l).length = l.length := by simp [cells]
theorem cells_append (l r : List UInt8) : cells (l ++ r) = cells l ++ cells r := by simp [cells]
theorem cells_one (l : List UInt8) : ∀ u ∈ cells l, u.oneCell' = true := by
  intro u hu
  simp only [cells, List.mem_map] at hu
  obtain ⟨b, _, rfl⟩ := hu
  rfl
theorem cells_at (l : List UInt8) (j : Nat) (hj : j < l.length) : (cells l)[j]? = some (.int .u8 (byteAt l j)) := by
  unfold byteAt; simp [cells, List.getElem?_eq_getElem hj]

theorem add_none (b o j : Nat) : (⟨b, o, none⟩ : Addr).add j = ⟨b, o + j, none⟩ := by
  by_cases h : j = 0
  · subst h; simp [Addr.add]
  · simp [Addr.add, h]

/-- What Row says, in the form that the laws on append ask. -/
theorem Row.news {w : World} {ad : Addr} {n : Nat} {l : List UInt8} (h : Row w (some ad) n l) : ∀ j u, (cells l)[j]? = some u → w.cell? (ad.add j) = some u := by
  intro j u hu
  have hj : j < l.length := by
    have := (List.getElem?_eq_some_iff.1 hu).1
    rwa [cells_length] at this
  obtain ⟨b, o, e, _, hc⟩ := h.2.2 (by have := h.1; omega)
  injection e with e
  subst e
  rw [cells_at l j hj] at hu
  injection hu with hu
  rw [add_none, hc j (by rw [← h.1]; exact hj), hu]

theorem Row.nil {w : World} {n : Nat} {l : List UInt8} (h : Row w none n l) : n = 0 ∧ l = [] := by
  rcases Nat.eq_zero_or_pos n with h0 | h0
  · exact ⟨h0, List.eq_nil_of_length_eq_zero (by rw [h.1]; exact h0)⟩
  · obtain ⟨b, o, e, _⟩ := h.2.2 h0
    cases e

theorem Row.of_own {w : World} {base : Nat} {e : TypeId} {v : Value} {n : Nat} {l : List UInt8} (h : w.ownsRow base e 1 v n (cells l)) :
    ∃ A c, v = .slice A n c ∧ n ≤ c ∧ Row w A n l := by
  have hl : l.length = n := by have := h.1; rw [cells_length] at this; omega
  have hcs := fun g => h.cells (g := g)
  rcases h.2 with ⟨rfl, rfl⟩ | ⟨g, cap, cur, rfl, _, hg, hnc, hcm, _, _⟩
  · exact ⟨none, 0, rfl, Nat.le_refl _, hl, by unfold maxLen; omega, fun h0 => by omega⟩
  · refine ⟨_, cap, rfl, hnc, hl, by omega, fun h0 => ⟨g, 0, rfl, (Array.getElem?_eq_some_iff.1 hg).1, fun j hj => ?_⟩⟩
    have := hcs g rfl j _ (cells_at l j (by omega))
    rwa [add_none] at this

theorem Row.kept {w w' : World} {A : Option Addr} {n : Nat} {l : List UInt8} (h : Row w A n l) (hb : Below w.heap.size w w') : Row w' A n l := by
  refine ⟨h.1, h.2.1, fun h0 => ?_⟩
  obtain ⟨b, o, e, hlt, hc⟩ := h.2.2 h0
  exact ⟨b, o, e, Nat.lt_of_lt_of_le hlt hb.size, fun j hj => (hb.cell (p := ⟨b, o + j, none⟩) hlt).trans (hc j hj)⟩

/-- Row over a world in which nothing below B has turned, the slice lying below B. -/
theorem Row.kept_below {w w' : World} {B : Nat} {A : Option Addr} {n : Nat} {l : List UInt8} (h : Row w A n l) (hB : B = w.heap.size) (hb : Below B w w') : Row w' A n l := by
  subst hB; exact h.kept hb

theorem byteInfo : (Try.prog.info? 5).map (fun i => (i.zero, i.size, i.bytes)) = some (some (.int .u8 0), 1, 1) := by kernel_rfl

theorem run_append_row (w : World) (ty : TypeId) (base : Nat) (v : Value) (n : Nat) (l : List UInt8) (hown : w.ownsRow base 5 1 v n (cells l))
    (A : Option Addr) (m c : Nat) (r : List UInt8) (hr : Row w A m r) (hnil : A = none → c = 0) (hb : n + m ≤ 140737488355328) (hbase : base ≤ w.heap.size) :
    ∃ v' w', (Builtin.append_ #[22, 22] ty #[v, .slice A m c]).run Try.prog w = .ok v' w' ∧ w'.ownsRow base 5 1 v' (n + m) (cells (l ++ r)) ∧ w.grownBy w' v.ownBlock := by
  obtain ⟨i, hi, hz, hs, hby⟩ := info_parts byteInfo
  cases A with
  | none =>
    obtain ⟨rfl, rfl⟩ := hr.nil
    obtain rfl := hnil rfl
    exact ⟨v, w, run_append_owned_none (P := Try.prog) (w := w) base 22 ty 5 i 1 Try.underlying22 hi v n _ hown, by simpa using hown, World.grownBy.refl w _⟩
  | some ad =>
    obtain ⟨v', w', h1, h2, h3, _⟩ := run_append_own (P := Try.prog) w base 22 ty 5 i (.int .u8 0) 1 1 Try.underlying22 hi hz hs hby rfl (by omega) v n _ hown ad m c (cells r)
      (by rw [cells_length, hr.1]; omega) hr.news (cells_one r) (by unfold maxLen; omega) (by omega) hbase
    exact ⟨v', w', h1, by rw [cells_append]; exact h2, h3⟩

theorem wpList_append_row (w : World) {ops : Array Oper} {rest : List Oper} {o : Oper} {a : Act} {Q : Exit → Act → World → Prop} (hgd : o.guard = none) (s x : Operand)
    (ho : o.op = .call { callee := .builtin .append, args := #[s, x], argTypes := #[22, 22] })
    (base : Nat) (v : Value) (n : Nat) (l : List UInt8) (hs : a.eval s = v) (hown : w.ownsRow base 5 1 v n (cells l))
    (A : Option Addr) (m c : Nat) (r : List UInt8) (hx : a.eval x = .slice A m c) (hr : Row w A m r) (hnil : A = none → c = 0) (hb : n + m ≤ 140737488355328) (hbase : base ≤ w.heap.size)
    (h : ∀ A' c' w', n + m ≤ c' → Row w' A' (n + m) (l ++ r) → w'.ownsRow base 5 1 (.slice A' (n + m) c') (n + m) (cells (l ++ r)) → Below base w w' → wpList Try.prog ops Q rest (a.put o.dst (.slice A' (n + m) c')) w') : wpList Try.prog ops Q (o :: rest) a w := by
  refine wpList_plain hgd fun K hK => ?_
  obtain ⟨v', w', hrun, h2, h3⟩ := run_append_row w o.type base v n l hown A m c r hr hnil hb hbase
  obtain ⟨A', c', rfl, h4, h5⟩ := Row.of_own h2
  unfold Oper.wp execOp
  simp only [ho, resolve, invoke, builtin, Sem.run_bind, Sem.run_pure, Result.andThen_ok, List.map_toArray, List.map_cons, List.map_nil, hs, hx, hrun]
  exact hK _ _ (h A' c' w' h4 h5 h2 ((Below.refl base w).grown h3 hbase fun k hk => (hown.lt k hk).1))

/-- A slice of bytes that came in: nil, or a row of numbers that fit. -/
theorem Row.of_came {w : World} {a : Option Addr} {len cap : Nat} {zs : List Int}
    (h : (a = none ∧ len = 0 ∧ cap = 0 ∧ zs = []) ∨ ∃ x, a = some x ∧ len ≤ cap ∧ cap ≤ maxLen ∧ zs.length = cap ∧ (∀ i, i < zs.length → w.cell? (x.add i) = some (.int .u8 (zs.getD i 0))) ∧ ∀ n ∈ zs, (Lit.int .u8 n).wf = true) :
    ∃ l, Row w a len l ∧ len ≤ cap ∧ (a = none → cap = 0) := by
  rcases h with ⟨rfl, rfl, rfl, rfl⟩ | ⟨x, rfl, hl, hm, hz, hc, hw⟩
  · exact ⟨[], ⟨rfl, by unfold maxLen; omega, fun h0 => by omega⟩, Nat.le_refl _, fun _ => rfl⟩
  · refine ⟨(zs.take len).map fun z => UInt8.ofNat z.toNat, ⟨by rw [List.length_map, List.length_take]; omega, by omega, fun h0 => ?_⟩, hl, fun e => by cases e⟩
    obtain ⟨b, o, spot⟩ := x
    have h0c := hc 0 (by omega)
    have hspot : spot = none := by simpa [Addr.add] using World.cell?_spot h0c
    subst hspot
    refine ⟨b, o, rfl, ?_, fun j hj => ?_⟩
    · have := World.block_lt_of_cell? w _ h0c
      rwa [add_none] at this
    · have hj2 : j < zs.length := by omega
      have e := hc j hj2
      rw [add_none] at e
      rw [e]
      have hg : zs.getD j 0 = zs[j] := by simp [List.getD, List.getElem?_eq_getElem hj2]
      have hwf := hw _ (List.getElem_mem hj2)
      have hbd : 0 ≤ zs[j] ∧ zs[j] ≤ 255 := by simpa [Lit.wf, IntKind.min, IntKind.max, IntKind.signed, IntKind.bits] using hwf
      have e2 : byteAt ((zs.take len).map fun z => UInt8.ofNat z.toNat) j = zs[j] := by
        unfold byteAt
        simp [hj, List.getElem?_eq_getElem hj2]
        omega
      rw [e2, hg]
/-- Below block number B the world is as it was, and no answer of the tape was taken back. -/
structure BelowD (B : Nat) (w w' : World) : Prop extends Below B w w' where
  drawn : w.drawn ≤ w'.drawn
theorem BelowD.refl (B : Nat) (w : World) : BelowD B w w := ⟨Below.refl B w, Nat.le_refl _⟩
theorem BelowD.trans {B : Nat} {a b c : World} (h : BelowD B a b) (k : BelowD B b c) : BelowD B a c := ⟨h.toBelow.trans k.toBelow, Nat.le_trans h.drawn k.drawn⟩
theorem BelowD.mono {B B' : Nat} {w w' : World} (h : BelowD B w w') (hB : B' ≤ B) : BelowD B' w w' := ⟨h.toBelow.mono hB, h.drawn⟩
theorem BelowD.drew {B : Nat} {a w : World} (h : BelowD B a w) : BelowD B a w.drew := ⟨h.toBelow.drew, Nat.le_trans h.drawn (Nat.le_succ _)⟩
theorem BelowD.alloc {B : Nat} {a w : World} (h : BelowD B a w) (hB : B ≤ w.heap.size) (o : Obj) : BelowD B a (w.alloc o) := ⟨h.toBelow.alloc hB o, h.drawn⟩
/-- A call of which it is known that it takes no answer back. -/
theorem dropD {P : Program} {f : FuncId} {args : Array Value} {w : World} {B : Nat} {R : Ending → Prop} (h : Calls P f args w fun e w' => R e ∧ BelowD B w w') : Calls P f args w fun e w' => R e ∧ Below B w w' :=
  h.mono fun _ _ k => ⟨k.1, k.2.toBelow⟩
theorem at_text (t : ByteArray) (k : Nat) (h : k < t.size) : (t[k].toNat : Int) = byteAt t.data.toList k := by
  have h2 : k < t.data.toList.length := by rw [← Lib.size_eq]; exact h
  unfold byteAt
  rw [List.getD, List.getElem?_eq_getElem h2]
  rfl
end Go.Proofs.Ytpgfolfhfhfdhaa.Num
