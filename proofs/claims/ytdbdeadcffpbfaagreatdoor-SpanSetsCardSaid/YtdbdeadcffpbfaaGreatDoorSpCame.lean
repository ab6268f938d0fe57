/-
  Spans that came in: a slice of spans reads as a list of spans whose versions' rows lie where they say. No condition beyond the form's own.
-/
import Derived.Test.YtdbdeadcffpbfaaGreatDoorSvCame
import Derived.Test.YtdbdeadcffpbfaaGreatDoorSpMem
import Derived.Deep.Slices
import Derived.Deep.Fields
import Derived.ChangeSame
namespace Go.Proofs.YtdbdeadcffpbfaaGreatDoor.Came
open Go.ChangeShapes Go.WideShapes Go.RowKit Go.Deep

set_option maxRecDepth 100000 in
theorem ver_at {H : Type} {enc : TypeId × Value → H} {W : World} {fuel : Nat} {l : List Value} {y : DataW H × List MemPlace} (hf : DataW.trod enc Tryz.prog W 0 (fun _ => true) true fuel 32 l = some y) :
    ∃ (v : Semver.Ver) (A : Option Addr) (c : Nat) (B : Option Addr) (d : Nat), l = [.int .u64 (v.a : Int), .int .u64 (v.b : Int), .int .u64 (v.c : Int), .slice A v.pre.length c, .slice B v.build.length d] ∧ Ident.SRow W A v.pre.length v.pre ∧ Ident.SRow W B v.build.length v.build ∧ Prec.Fit v.pre ∧ Prec.Fit v.build ∧ (A = none → c = 0) := by
  have hC : Tryz.prog.cellsOf 32 = 5 := by kernel_rfl
  have cu : Tryz.prog.cellsOf 29 = 1 := by kernel_rfl
  have ct : Tryz.prog.cellsOf 30 = 1 := by kernel_rfl
  obtain ⟨xs, n, _, _, hsz, hlen, hg⟩ := DataW.trod_struct Tryz.underlying32 hf
  have hl : xs.length = 5 := hlen
  rw [hC] at hsz
  match l, hsz with
  | [z0, z1, z2, z3, z4], _ =>
    match xs, hl with
    | [y0, y1, y2, y3, y4], _ =>
      have f0 : DataW.trod enc Tryz.prog W 0 (fun _ => true) true n 29 (([z0, z1, z2, z3, z4].drop 0).take (Tryz.prog.cellsOf 29)) = some y0 := hg 0 _ rfl
      rw [cu] at f0
      have g0 : DataW.trod enc Tryz.prog W 0 (fun _ => true) true n 29 [z0] = some y0 := f0
      have f1 : DataW.trod enc Tryz.prog W 0 (fun _ => true) true n 29 (([z0, z1, z2, z3, z4].drop 1).take (Tryz.prog.cellsOf 29)) = some y1 := hg 1 _ rfl
      rw [cu] at f1
      have g1 : DataW.trod enc Tryz.prog W 0 (fun _ => true) true n 29 [z1] = some y1 := f1
      have f2 : DataW.trod enc Tryz.prog W 0 (fun _ => true) true n 29 (([z0, z1, z2, z3, z4].drop 2).take (Tryz.prog.cellsOf 29)) = some y2 := hg 2 _ rfl
      rw [cu] at f2
      have g2 : DataW.trod enc Tryz.prog W 0 (fun _ => true) true n 29 [z2] = some y2 := f2
      have f3 : DataW.trod enc Tryz.prog W 0 (fun _ => true) true n 30 (([z0, z1, z2, z3, z4].drop 3).take (Tryz.prog.cellsOf 30)) = some y3 := hg 3 _ rfl
      rw [ct] at f3
      have g3 : DataW.trod enc Tryz.prog W 0 (fun _ => true) true n 30 [z3] = some y3 := f3
      have f4 : DataW.trod enc Tryz.prog W 0 (fun _ => true) true n 30 (([z0, z1, z2, z3, z4].drop 4).take (Tryz.prog.cellsOf 30)) = some y4 := hg 4 _ rfl
      rw [ct] at f4
      have g4 : DataW.trod enc Tryz.prog W 0 (fun _ => true) true n 30 [z4] = some y4 := f4
      clear f0 f1 f2 f3 f4 hg
      obtain ⟨a, rfl, _⟩ := field_read g0
      obtain ⟨b, rfl, _⟩ := field_read g1
      obtain ⟨c, rfl, _⟩ := field_read g2
      obtain ⟨A, m1, c1, p, e1, r1, q1, k1, u1, s1⟩ := texts_at g3
      obtain ⟨B, m2, c2, t, e2, r2, q2, k2, _, s2⟩ := texts_at g4
      simp at e1 e2
      subst e1
      subst e2
      obtain rfl := r1.1
      obtain rfl := r2.1
      exact ⟨⟨a, b, c, p, t⟩, A, c1, B, c2, rfl, r1, r2, ⟨Nat.le_trans q1 k1, s1⟩, ⟨Nat.le_trans q2 k2, s2⟩, u1⟩
set_option maxRecDepth 100000 in
theorem versionF {H : Type} {enc : TypeId × Value → H} {W : World} {r : Reach} {b0 : Nat} {x : Value} {d : DataW H} {ps : List MemPlace} (hv : Value.okWide Tryz.prog W r b0 32 x)
    (h : DataW.Trod enc Tryz.prog W 0 (fun _ => true) true 32 x d ps) :
    ∃ (v : Semver.Ver) (A : Option Addr) (c : Nat) (B : Option Addr) (d : Nat), x = .agg #[.int .u64 (v.a : Int), .int .u64 (v.b : Int), .int .u64 (v.c : Int), .slice A v.pre.length c, .slice B v.build.length d] ∧ Ident.SRow W A v.pre.length v.pre ∧ Ident.SRow W B v.build.length v.build ∧ Prec.Fit v.pre ∧ Prec.Fit v.build ∧ (A = none → c = 0) := by
  obtain ⟨cs, rfl, _⟩ := okWide_struct Tryz.underlying32 hv
  obtain ⟨fuel, hf⟩ := h
  obtain ⟨l⟩ := cs
  obtain ⟨v, A, c, B, d, e, h1⟩ := ver_at (l := l) hf
  exact ⟨v, A, c, B, d, by rw [e], h1⟩
theorem kind_read {H : Type} {enc : TypeId × Value → H} {W : World} {n : Nat} {z : Value} {y : DataW H × List MemPlace} (h : DataW.trod enc Tryz.prog W 0 (fun _ => true) true n 3 [z] = some y) : ∃ k : Int, z = .int .i64 k := by
  obtain ⟨m, hm, _, _⟩ := DataW.trod_int Tryz.underlying3 h
  simp at hm
  exact ⟨m, hm⟩
set_option maxRecDepth 100000 in
theorem cut_at {H : Type} {enc : TypeId × Value → H} {W : World} {fuel : Nat} {l : List Value} {y : DataW H × List MemPlace} (hf : DataW.trod enc Tryz.prog W 0 (fun _ => true) true fuel 35 l = some y) : ∃ r : Span.RCut, l = r.vals ∧ Span.Lies W r := by
  have hC : Tryz.prog.cellsOf 35 = 6 := by kernel_rfl
  have ci : Tryz.prog.cellsOf 3 = 1 := by kernel_rfl
  have cv : Tryz.prog.cellsOf 32 = 5 := by kernel_rfl
  obtain ⟨xs, n, _, _, hsz, hlen, hg⟩ := DataW.trod_struct Tryz.underlying35 hf
  have hl : xs.length = 2 := hlen
  rw [hC] at hsz
  match l, hsz with
  | [z0, z1, z2, z3, z4, z5], _ =>
    match xs, hl with
    | [y0, y1], _ =>
      have f0 : DataW.trod enc Tryz.prog W 0 (fun _ => true) true n 3 (([z0, z1, z2, z3, z4, z5].drop 0).take (Tryz.prog.cellsOf 3)) = some y0 := hg 0 _ rfl
      rw [ci] at f0
      have g0 : DataW.trod enc Tryz.prog W 0 (fun _ => true) true n 3 [z0] = some y0 := f0
      have f1 : DataW.trod enc Tryz.prog W 0 (fun _ => true) true n 32 (([z0, z1, z2, z3, z4, z5].drop 1).take (Tryz.prog.cellsOf 32)) = some y1 := hg 1 _ rfl
      rw [cv] at f1
      have g1 : DataW.trod enc Tryz.prog W 0 (fun _ => true) true n 32 [z1, z2, z3, z4, z5] = some y1 := f1
      clear f0 f1 hg
      obtain ⟨k, rfl⟩ := kind_read g0
      obtain ⟨v, A, c, B, d, e, h1, h2, h3, h4, h5⟩ := ver_at g1
      exact ⟨⟨k, v, A, c, B, d⟩, by rw [e]; rfl, h1, h2, h3, h4, h5⟩
set_option maxRecDepth 100000 in
theorem span_at {H : Type} {enc : TypeId × Value → H} {W : World} {fuel : Nat} {l : List Value} {y : DataW H × List MemPlace} (hf : DataW.trod enc Tryz.prog W 0 (fun _ => true) true fuel 37 l = some y) : ∃ s : Span.RSp, l = s.vals ∧ Span.LiesS W s := by
  have hC : Tryz.prog.cellsOf 37 = 12 := by kernel_rfl
  have cc : Tryz.prog.cellsOf 35 = 6 := by kernel_rfl
  obtain ⟨xs, n, _, _, hsz, hlen, hg⟩ := DataW.trod_struct Tryz.underlying37 hf
  have hl : xs.length = 2 := hlen
  rw [hC] at hsz
  match xs, hl with
  | [y0, y1], _ =>
    have f0 : DataW.trod enc Tryz.prog W 0 (fun _ => true) true n 35 ((l.drop 0).take (Tryz.prog.cellsOf 35)) = some y0 := hg 0 _ rfl
    have f1 : DataW.trod enc Tryz.prog W 0 (fun _ => true) true n 35 ((l.drop 6).take (Tryz.prog.cellsOf 35)) = some y1 := hg 1 _ rfl
    rw [cc] at f0 f1
    obtain ⟨r0, e0, k0⟩ := cut_at f0
    obtain ⟨r1, e1, k1⟩ := cut_at f1
    refine ⟨⟨r0, r1⟩, ?_, k0, k1⟩
    rw [Span.svals_eq, ← e0, ← e1, List.drop_zero, List.take_of_length_le (l := l.drop 6) (by rw [List.length_drop]; omega), List.take_append_drop]
theorem list_of {α : Type} [Inhabited α] {P : Nat → α → Prop} : ∀ (n : Nat), (∀ i, i < n → ∃ x, P i x) → ∃ l : List α, l.length = n ∧ ∀ i, i < n → P i (l.getD i default)
  | 0, _ => ⟨[], rfl, fun i hi => by omega⟩
  | n + 1, h => by
    obtain ⟨l, hl, hp⟩ := list_of n fun i hi => h i (by omega)
    obtain ⟨x, hx⟩ := h n (by omega)
    refine ⟨l ++ [x], by simp [hl], fun i hi => ?_⟩
    rcases Nat.lt_or_ge i n with h1 | h1
    · have e : (l ++ [x]).getD i default = l.getD i default := by simp [List.getD, List.getElem?_append_left (show i < l.length by omega)]
      rw [e]; exact hp i h1
    · obtain rfl : i = n := by omega
      have e : (l ++ [x]).getD i default = x := by simp [List.getD, ← hl]
      rw [e]; exact hx
theorem spans {H : Type} {enc : TypeId × Value → H} {W : World} {a : Option Addr} {len cap : Nat} {d : DataW H} {ps : List MemPlace}
    (h : DataW.Trod enc Tryz.prog W 0 (fun _ => true) true 22 (.slice a len cap) d ps) : ∃ l, Span.SpRow W a len l ∧ len ≤ cap ∧ cap ≤ maxLen ∧ (a = none → cap = 0) := by
  have hC : Tryz.prog.cellsOf 37 = 12 := by kernel_rfl
  obtain ⟨fuel, hf⟩ := h
  rcases open_slice Tryz.underlying22 hf with ⟨hcs, _⟩ | ⟨x, len', cap', m, n, D, Pl, hcs, _, hl, hm, hmm, _, hi⟩
  · simp [Value.cells] at hcs
    obtain ⟨rfl, rfl, rfl⟩ := hcs
    exact ⟨[], Span.SpRow.none_ _ _, Nat.le_refl _, by unfold maxLen; omega, fun _ => rfl⟩
  · simp [Value.cells] at hcs
    obtain ⟨rfl, rfl, rfl⟩ := hcs
    have hm2 : len ≤ m := by rw [hmm]; split <;> omega
    rw [hC] at hi
    obtain ⟨l, hlen, hp⟩ := list_of (P := fun i (s : Span.RSp) => Span.LiesS W s ∧ ∀ j v, s.vals[j]? = some v → W.cell? ((x.add (i * 12)).add j) = some v) len fun i hi' => by
      obtain ⟨cs, hc, ht⟩ := hi i (by omega)
      obtain ⟨_, hcl, hat⟩ := World.cells?_some hc
      obtain ⟨s, e, hs⟩ := span_at ht
      refine ⟨s, hs, fun j v hv => ?_⟩
      have hj : j < 12 := (List.getElem?_eq_some_iff.1 hv).1
      rw [hat j hj, e]; exact hv
    refine ⟨l, ⟨hlen, fun s hs => ?_, fun h0 => ?_⟩, hl, hm, (fun e => by cases e)⟩
    · obtain ⟨j, hj, rfl⟩ := List.getElem_of_mem hs
      have := (hp j (by omega)).1
      simpa [List.getD, List.getElem?_eq_getElem hj] using this
    · obtain ⟨b, o, spot⟩ := x
      have h0c := (hp 0 h0).2 0 _ rfl
      have hspot : spot = none := by simpa [Addr.add] using World.cell?_spot h0c
      subst hspot
      refine ⟨b, o, rfl, ?_, fun j hj i v hv => ?_⟩
      · have := World.block_lt_of_cell? W _ h0c
        rwa [Num.add_none, Num.add_none] at this
      · have e := (hp j hj).2 i v hv
        rwa [Num.add_none, Num.add_none] at e
end Go.Proofs.YtdbdeadcffpbfaaGreatDoor.Came
