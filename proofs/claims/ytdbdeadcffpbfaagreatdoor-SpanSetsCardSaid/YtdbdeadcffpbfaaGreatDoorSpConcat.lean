/-
  Two slices of edges one behind the other, in new memory (slices.Concat, slices.Grow). Conditions: the slices read as the lists of edges; there aren't too many.
-/
import Derived.Test.YtdbdeadcffpbfaaGreatDoorSpOwn
import Derived.Test.YtdbdeadcffpbfaaGreatDoorShelfGrow
namespace Go.Proofs.YtdbdeadcffpbfaaGreatDoor.Span
open Go.RowKit Num Ident Semver Prec

/-- A slice of edges as a source: where it lies, if it isn't nil, it reads as the list. -/
def EdSrc (w : World) (v : Value) (re : List REdge) : Prop :=
  ∃ A c, v = .slice A re.length c ∧ (A = none → re = [] ∧ c = 0) ∧ ∀ ad, A = some ad → ad.block < w.heap.size ∧ ∀ j u, (re.flatMap REdge.vals)[j]? = some u → w.cell? (ad.add j) = some u
theorem EdSrc.kept {w w' : World} {v : Value} {re : List REdge} (h : EdSrc w v re) (hb : Below w.heap.size w w') : EdSrc w' v re := by
  obtain ⟨A, c, rfl, h1, h2⟩ := h
  refine ⟨A, c, rfl, h1, fun ad ha => ?_⟩
  obtain ⟨h3, h4⟩ := h2 ad ha
  refine ⟨Nat.lt_of_lt_of_le h3 hb.size, fun j u hu => ?_⟩
  rw [hb.cell (by unfold Addr.add; split <;> exact h3)]; exact h4 j u hu
theorem EdSrc.of_own {w : World} {base : Nat} {v : Value} {re : List REdge} (h : w.ownsRow base 55 7 v re.length (re.flatMap REdge.vals)) : EdSrc w v re := by
  have hcs := fun g => h.cells (g := g)
  have hlt := h.lt
  rcases h.2 with ⟨rfl, h0⟩ | ⟨g, cap, cur, rfl, _, hg, _⟩
  · have : re = [] := List.eq_nil_of_length_eq_zero h0
    subst this
    exact ⟨none, 0, rfl, fun _ => ⟨rfl, rfl⟩, fun ad ha => by cases ha⟩
  · refine ⟨_, cap, rfl, (fun e => by cases e), fun ad ha => ?_⟩
    injection ha with ha
    subst ha
    exact ⟨(hlt g rfl).2, fun j u hu => hcs g rfl j u hu⟩
theorem run_append_ed (w : World) (ty : TypeId) (base : Nat) (v : Value) (n : Nat) (l : List REdge) (hown : w.ownsRow base 55 7 v n (l.flatMap REdge.vals)) (x : Value) (r : List REdge) (hr : EdSrc w x r) (hb : (n + r.length) * 88 ≤ 140737488355328) (hbase : base ≤ w.heap.size) :
    ∃ v' w', (Builtin.append_ #[46, 46] ty #[v, x]).run Tryz.prog w = .ok v' w' ∧ w'.ownsRow base 55 7 v' (n + r.length) ((l ++ r).flatMap REdge.vals) ∧ w.grownBy w' v.ownBlock := by
  obtain ⟨i, hi, hz, hs, hby⟩ := info_parts edInfo
  obtain ⟨A, c, rfl, h1, h2⟩ := hr
  cases A with
  | none =>
    obtain ⟨rfl, rfl⟩ := h1 rfl
    exact ⟨v, w, run_append_owned_none (P := Tryz.prog) (w := w) base 46 ty 55 i 7 Tryz.underlying46 hi v n _ hown, by simpa using hown, World.grownBy.refl w _⟩
  | some ad =>
    obtain ⟨v', w', h3, h4, h5, _⟩ := run_append_own (P := Tryz.prog) w base 46 ty 55 i _ 7 88 Tryz.underlying46 hi hz hs hby rfl (by omega) v n _ hown ad r.length c (r.flatMap REdge.vals)
      (by rw [flat_len _ 7 evals_len]) (h2 ad rfl).2 (flat_one _ evals_one r) (by unfold maxLen; omega) hb hbase
    exact ⟨v', w', h3, by rw [List.flatMap_append]; exact h4, h5⟩
theorem wpList_append_eds (w : World) {ops : Array Oper} {rest : List Oper} {o : Oper} {a : Act} {Q : Exit → Act → World → Prop} (hgd : o.guard = none) (s x : Operand)
    (ho : o.op = .call { callee := .builtin .append, args := #[s, x], argTypes := #[46, 46] })
    (base : Nat) (v : Value) (n : Nat) (l : List REdge) (hs : a.eval s = v) (hown : w.ownsRow base 55 7 v n (l.flatMap REdge.vals)) (y : Value) (r : List REdge) (hx : a.eval x = y) (hr : EdSrc w y r) (hb : (n + r.length) * 88 ≤ 140737488355328) (hbase : base ≤ w.heap.size)
    (h : ∀ v' w', w'.ownsRow base 55 7 v' (n + r.length) ((l ++ r).flatMap REdge.vals) → Below base w w' → wpList Tryz.prog ops Q rest (a.put o.dst v') w') : wpList Tryz.prog ops Q (o :: rest) a w := by
  refine wpList_plain hgd fun K hK => ?_
  obtain ⟨v', w', hrun, h2, h3⟩ := run_append_ed w o.type base v n l hown y r hr hb hbase
  unfold Oper.wp execOp
  simp only [ho, resolve, invoke, builtin, Sem.run_bind, Sem.run_pure, Result.andThen_ok, List.map_toArray, List.map_cons, List.map_nil, hs, hx, hrun]
  exact hK _ _ (h v' w' h2 ((Below.refl base w).grown h3 hbase fun k hk => (hown.lt k hk).1))
/-- What Grow leaves of nil. -/
def GrowPost (w : World) (e : Ending) (w' : World) : Prop := ∃ v, e = .returned v ∧ w'.ownsRow w.heap.size 55 7 v 0 [] ∧ Below w.heap.size w w'
theorem grow_any (n : Nat) (w : World) (hn : n ≤ 1000000) : Calls Tryz.prog 40 #[.slice none 0 0, .int .i64 (n : Int)] w (GrowPost w) := by
  obtain ⟨i, hi, hz, hs, hby⟩ := info_parts edInfo
  by_cases h0 : n = 0
  · subst h0
    exact (Any8.slices_Grow_room Tryz.growL none 0 0 0 w (Nat.le_refl _) (by omega) (by omega) (Nat.le_refl _)).mono fun e w' ⟨he, hw⟩ => by
      subst hw; exact ⟨_, he, World.ownsRow_nil _ _ _ _, Below.refl _ _⟩
  · refine (Any8.slices_Grow_grow Tryz.growL i _ hi hz (by rw [hs]; omega) none 0 0 n [] w (Nat.le_refl _) (by omega) (by rw [hby]; omega) (by omega) (by simp) (fun _ => rfl) (fun a ha => by cases ha)).mono fun e w' ⟨he, hw⟩ => ?_
    have h1 := grownCap_ge w (0 + n) 0 55
    have h2 := grownCap_le_maxLen w (0 + n) 0 55 (by unfold maxLen; omega)
    refine ⟨_, he, ?_, ?_⟩
    · rw [hw]
      refine World.ownsRow_made (base := w.heap.size) (e := 55) (size := 7) w.drew _ _ (Nat.le_refl _) h2 ?_
      rw [Array.size_append, Array.size_append, size_zeroCells, size_zeroCells]
      show 0 + (0 + n - 0) * 7 + (grownCap w (0 + n) 0 55 - (0 + n)) * 7 = grownCap w (0 + n) 0 55 * 7
      omega
    · rw [hw]; exact ((Below.refl _ _).drew).alloc (Nat.le_refl _) _
/-- What Concat leaves. -/
def ConcatPost (w : World) (re : List REdge) (e : Ending) (w' : World) : Prop := ∃ v, e = .returned v ∧ w'.ownsRow w.heap.size 55 7 v re.length (re.flatMap REdge.vals) ∧ Below w.heap.size w w'
def upto (r1 r2 : List REdge) (k : Nat) : List REdge := if k = 0 then [] else if k = 1 then r1 else r1 ++ r2
def ConcatJ (w : World) (r1 r2 : List REdge) (v iv : Value) (W : World) : Prop :=
  ∃ k : Nat, k ≤ 2 ∧ iv = .int .i64 k ∧ W.ownsRow w.heap.size 55 7 v (upto r1 r2 k).length ((upto r1 r2 k).flatMap REdge.vals) ∧ Below w.heap.size w W

set_option maxRecDepth 100000 in
set_option maxHeartbeats 3200000 in
theorem concat_any (q : Nat) (v1 v2 : Value) (r1 r2 : List REdge) (w : World) (hq : q < w.heap.size) (c1 : w.cell? ⟨q, 0, none⟩ = some v1) (c2 : w.cell? ⟨q, 1, none⟩ = some v2) (s1 : EdSrc w v1 r1) (s2 : EdSrc w v2 r2) (h1 : r1.length ≤ 100000) (h2 : r2.length ≤ 100000) :
    Calls Tryz.prog 25 #[.slice (some ⟨q, 0, none⟩) 2 2] w (ConcatPost w (r1 ++ r2)) := by
  have S1 := Lib.hid s1
  have S2 := Lib.hid s2
  obtain ⟨A1, d1, rfl, _, _⟩ := s1
  obtain ⟨A2, d2, rfl, _, _⟩ := s2
  go_enter Tryz.func25, Tryz.ntmps25
  go_wp2
  go_loop [3, 11] (fun n i => ∃ k : Nat, k ≤ 2 ∧ i = .int .i64 k ∧ n = .int .i64 ((upto r1 r2 k).length : Int)) (fun _ i => 2 - (intOf i).toNat)
  case atStart => exact ⟨0, by omega, rfl, rfl⟩
  case round =>
    obtain ⟨k, hk, rfl, rfl⟩ := hrel
    obtain rfl | rfl | rfl : k = 0 ∨ k = 1 ∨ k = 2 := by omega
    · have e0 : (upto r1 r2 0).length = 0 := rfl
      rw [e0]
      go_wp2
      exact ⟨⟨1, by omega, rfl, rfl⟩, by simp [intOf]⟩
    · have e0 : (upto r1 r2 1).length = r1.length := rfl
      rw [e0]
      go_wp2
      exact ⟨⟨2, by omega, rfl, by show _ = Value.int .i64 (((r1 ++ r2).length : Nat) : Int); rw [List.length_append, Int.natCast_add]⟩, by simp [intOf]⟩
    · have e0 : (upto r1 r2 2).length = r1.length + r2.length := by show (r1 ++ r2).length = _; rw [List.length_append]
      rw [e0]
      have HG : Hid (Calls Tryz.prog 40 #[.slice none 0 0, .int .i64 ((r1.length : Int) + (r2.length : Int))] w (GrowPost w)) := by
        have := grow_any (r1.length + r2.length) w (by omega); rw [Int.natCast_add] at this; exact this
      clear e0
      go_wp2_with fail
      refine HG.out.mono ?_
      rintro e w1 ⟨v, rfl, ho, hb⟩
      have HO := Lib.hid ho
      have HB := Lib.hid hb
      clear ho hb HG
      go_wp2
      go_loopw [6, 27] (fun v i W => ConcatJ w r1 r2 v i W) (fun _ i _ => 2 - (intOf i).toNat)
      case atStart => exact ⟨0, by omega, rfl, HO.out, HB.out⟩
      case round =>
        obtain ⟨k, hk, rfl, hown, hbel⟩ := hrel
        have HO1 := Lib.hid hown
        have HB1 := Lib.hid hbel
        have hsz := hbel.size
        have T1 := Lib.hid (S1.out.kept hbel)
        have T2 := Lib.hid (S2.out.kept hbel)
        have x1 := (hbel.cell (p := ⟨q, 0, none⟩) hq).trans c1
        have x2 := (hbel.cell (p := ⟨q, 1, none⟩) hq).trans c2
        clear hown hbel HO HB
        obtain rfl | rfl | rfl : k = 0 ∨ k = 1 ∨ k = 2 := by omega
        · go_wp2_with (first
            | (at_builtin; refine wpList_append_eds _ rfl _ _ rfl w.heap.size _ 0 [] rfl HO1.out _ r1 rfl T1.out (by omega) hsz ?_; intro v4 w4 ho4 hb4; have HB4 := Lib.hid (HB1.out.trans hb4); have HO4 := Lib.hid ho4; clear ho4 hb4)
            | fail)
          refine ⟨⟨1, by omega, rfl, ?_, HB4.out⟩, by simp [intOf]⟩
          have := HO4.out
          rw [Nat.zero_add, List.nil_append] at this
          exact this
        · go_wp2_with (first
            | (at_builtin; refine wpList_append_eds _ rfl _ _ rfl w.heap.size _ r1.length r1 rfl HO1.out _ r2 rfl T2.out (by omega) hsz ?_; intro v4 w4 ho4 hb4; have HB4 := Lib.hid (HB1.out.trans hb4); have HO4 := Lib.hid ho4; clear ho4 hb4)
            | fail)
          refine ⟨⟨2, by omega, rfl, ?_, HB4.out⟩, by simp [intOf]⟩
          have := HO4.out
          rw [← List.length_append] at this
          exact this
        · go_wp2
          exact bodyPost_ret (v := u6) (by simp [results, Tryz.results25, go_sem]) rfl ⟨u6, rfl, HO1.out, HB1.out⟩
end Go.Proofs.YtdbdeadcffpbfaaGreatDoor.Span
