/-
  What the theorem of the last text needs of these: RgCame. Conditions: as each theorem states.
-/
import Derived.Test.YtgfbflnhjpbceaaGreatDoorAgaB1
import Derived.Test.YtgfbflnhjpbceaaGreatDoorAgaB12
import Derived.Test.YtgfbflnhjpbceaaGreatDoorAgaB34
set_option maxRecDepth 100000
set_option maxHeartbeats 25600000
namespace Go.Proofs.YtgfbflnhjpbceaaGreatDoor.Came
open Go.ChangeShapes Go.WideShapes Go.RowKit Go.Deep
open Range (Rng noRng RV LenOk LtB InS)
theorem ver_full {H : Type} {enc : TypeId × Value → H} {W : World} {fuel : Nat} {l : List Value} {y : DataW H × List MemPlace} (hf : DataW.trod enc Tryz.prog W 0 (fun _ => true) true fuel 25 l = some y) :
  ∃ (v : Semver.Ver) (A : Option Addr) (c : Nat) (B : Option Addr) (d : Nat), l = [.int .u64 (v.a : Int), .int .u64 (v.b : Int), .int .u64 (v.c : Int), .slice A v.pre.length c, .slice B v.build.length d] ∧ Ident.SRow W A v.pre.length v.pre ∧ Ident.SRow W B v.build.length v.build ∧ Range.FitV v ∧ v.pre.length ≤ c ∧ v.build.length ≤ d := by
 have hC : Tryz.prog.cellsOf 25 = 5 := by kernel_rfl
 have cu : Tryz.prog.cellsOf 22 = 1 := by kernel_rfl
 have ct : Tryz.prog.cellsOf 23 = 1 := by kernel_rfl
 obtain ⟨xs, n, _, _, hsz, hlen, hg⟩ := DataW.trod_struct Tryz.underlying25 hf
 have hl : xs.length = 5 := hlen
 rw [hC] at hsz
 match l, hsz with
 | [z0, z1, z2, z3, z4], _ =>
  match xs, hl with
  | [y0, y1, y2, y3, y4], _ =>
   have f0 : DataW.trod enc Tryz.prog W 0 (fun _ => true) true n 22 (([z0, z1, z2, z3, z4].drop 0).take (Tryz.prog.cellsOf 22)) = some y0 := hg 0 _ rfl
   rw [cu] at f0
   have g0 : DataW.trod enc Tryz.prog W 0 (fun _ => true) true n 22 [z0] = some y0 := f0
   have f1 : DataW.trod enc Tryz.prog W 0 (fun _ => true) true n 22 (([z0, z1, z2, z3, z4].drop 1).take (Tryz.prog.cellsOf 22)) = some y1 := hg 1 _ rfl
   rw [cu] at f1
   have g1 : DataW.trod enc Tryz.prog W 0 (fun _ => true) true n 22 [z1] = some y1 := f1
   have f2 : DataW.trod enc Tryz.prog W 0 (fun _ => true) true n 22 (([z0, z1, z2, z3, z4].drop 2).take (Tryz.prog.cellsOf 22)) = some y2 := hg 2 _ rfl
   rw [cu] at f2
   have g2 : DataW.trod enc Tryz.prog W 0 (fun _ => true) true n 22 [z2] = some y2 := f2
   have f3 : DataW.trod enc Tryz.prog W 0 (fun _ => true) true n 23 (([z0, z1, z2, z3, z4].drop 3).take (Tryz.prog.cellsOf 23)) = some y3 := hg 3 _ rfl
   rw [ct] at f3
   have g3 : DataW.trod enc Tryz.prog W 0 (fun _ => true) true n 23 [z3] = some y3 := f3
   have f4 : DataW.trod enc Tryz.prog W 0 (fun _ => true) true n 23 (([z0, z1, z2, z3, z4].drop 4).take (Tryz.prog.cellsOf 23)) = some y4 := hg 4 _ rfl
   rw [ct] at f4
   have g4 : DataW.trod enc Tryz.prog W 0 (fun _ => true) true n 23 [z4] = some y4 := f4
   clear f0 f1 f2 f3 f4 hg
   obtain ⟨a, rfl, wa⟩ := field_read g0
   obtain ⟨b, rfl, wb⟩ := field_read g1
   obtain ⟨c, rfl, wc⟩ := field_read g2
   obtain ⟨A, m1, c1, p, e1, r1, q1, k1, u1, s1⟩ := texts_at g3
   obtain ⟨B, m2, c2, t, e2, r2, q2, k2, _, s2⟩ := texts_at g4
   simp at e1 e2
   subst e1
   subst e2
   obtain rfl := r1.1
   obtain rfl := r2.1
   exact ⟨⟨a, b, c, p, t⟩, A, c1, B, c2, rfl, r1, r2, ⟨wa, wb, wc, Nat.le_trans q1 k1, Nat.le_trans q2 k2, s1, s2⟩, q1, q2⟩
theorem ins_of {W : World} {A : Option Addr} {n : Nat} {l : List (List UInt8)} (h : Ident.SRow W A n l) : InS (LtB W.heap.size) A n := by
 intro h0
 obtain ⟨b, o, e, hb, _⟩ := h.2 h0
 exact ⟨b, o, e, hb⟩
theorem rng_at {H : Type} {enc : TypeId × Value → H} {W : World} : ∀ (N fuel : Nat) (l : List Value) (y : DataW H × List MemPlace), fuel ≤ N → DataW.trod enc Tryz.prog W 0 (fun _ => true) true fuel 28 l = some y →
  ∃ (r : Rng) (x : RV), l = x.vals ∧ Range.Lies W (LtB W.heap.size) r x ∧ LenOk r
 | 0, fuel, l, y, hN, hf => by
  obtain ⟨xs, n, e, _⟩ := DataW.trod_struct Tryz.underlying28 hf
  omega
 | N + 1, fuel, l, y, hN, hf => by
  have hC : Tryz.prog.cellsOf 28 = 7 := by kernel_rfl
  have ci : Tryz.prog.cellsOf 3 = 1 := by kernel_rfl
  have cv : Tryz.prog.cellsOf 25 = 5 := by kernel_rfl
  have cl : Tryz.prog.cellsOf 26 = 1 := by kernel_rfl
  obtain ⟨xs, n, hfn, _, hsz, hlen, hg⟩ := DataW.trod_struct Tryz.underlying28 hf
  have hl : xs.length = 3 := hlen
  rw [hC] at hsz
  match l, hsz with
  | [z0, z1, z2, z3, z4, z5, z6], _ =>
   match xs, hl with
   | [y0, y1, y2], _ =>
    have f0 : DataW.trod enc Tryz.prog W 0 (fun _ => true) true n 3 (([z0, z1, z2, z3, z4, z5, z6].drop 0).take (Tryz.prog.cellsOf 3)) = some y0 := hg 0 _ rfl
    rw [ci] at f0
    have g0 : DataW.trod enc Tryz.prog W 0 (fun _ => true) true n 3 [z0] = some y0 := f0
    have f1 : DataW.trod enc Tryz.prog W 0 (fun _ => true) true n 25 (([z0, z1, z2, z3, z4, z5, z6].drop 1).take (Tryz.prog.cellsOf 25)) = some y1 := hg 1 _ rfl
    rw [cv] at f1
    have g1 : DataW.trod enc Tryz.prog W 0 (fun _ => true) true n 25 [z1, z2, z3, z4, z5] = some y1 := f1
    have f2 : DataW.trod enc Tryz.prog W 0 (fun _ => true) true n 26 (([z0, z1, z2, z3, z4, z5, z6].drop 6).take (Tryz.prog.cellsOf 26)) = some y2 := hg 2 _ rfl
    rw [cl] at f2
    have g2 : DataW.trod enc Tryz.prog W 0 (fun _ => true) true n 26 [z6] = some y2 := f2
    clear f0 f1 f2 hg
    obtain ⟨k, rfl⟩ := kind_read g0
    obtain ⟨v, A, c, B, d, e, h1, h2, h3, h4, h5⟩ := ver_full g1
    simp only [List.cons.injEq, and_true] at e
    obtain ⟨rfl, rfl, rfl, rfl, rfl⟩ := e
    rcases DataW.trod_slice Tryz.underlying26 g2 with ⟨hz, _⟩ | ⟨a, len, cap, elems, rest, n2, hn2, hz, _, _, hlc, hcm, hel, hi, _, _⟩
    ·simp only [List.cons.injEq, and_true] at hz
     subst hz
     exact ⟨.mk k v [], ⟨k, v, A, c, B, d, none, 0, 0⟩, rfl, Range.Lies.version k v A c B d h1 h2 (ins_of h1) (ins_of h2) h4 h5 h3, .mk k v [] (by simp) (fun y hy => by cases hy)⟩
    ·simp only [List.cons.injEq, and_true] at hz
     subst hz
     rw [hC] at hi
     obtain ⟨ps, hpl, hp⟩ := list_of (α := Rng × RV) (P := fun i (p : Rng × RV) => (Range.Lies W (LtB W.heap.size) p.1 p.2 ∧ LenOk p.1) ∧ ∀ j u, p.2.vals[j]? = some u → W.cell? ((a.add (i * 7)).add j) = some u) len fun i hi' => by
      have h0 := hi i hi'
      rw [List.getElem?_eq_getElem (show i < elems.length by omega), Option.bind_eq_some_iff] at h0
      obtain ⟨cs, hc, ht⟩ := h0
      obtain ⟨_, hcl, hat⟩ := World.cells?_some hc
      obtain ⟨r, x, e, hr, ho⟩ := rng_at N n2 cs _ (by omega) ht
      refine ⟨(r, x), ⟨hr, ho⟩, fun j u hu => ?_⟩
      have hj : j < 7 := (List.getElem?_eq_some_iff.1 hu).1
      rw [hat j hj, e]; exact hu
     have hgd : ∀ j, j < len → (ps.map Prod.fst).getD j noRng = (ps.getD j default).1 := fun j hj => by
      rw [List.getD_eq_getElem?_getD, List.getD_eq_getElem?_getD, List.getElem?_map, List.getElem?_eq_getElem (show j < ps.length by omega)]; rfl
     refine ⟨.mk k v (ps.map Prod.fst), ⟨k, v, A, c, B, d, some a, len, cap⟩, rfl, Range.Lies.mk ⟨k, v, A, c, B, d, some a, len, cap⟩ (ps.map Prod.fst) (fun j => (ps.getD j default).2) (by simp [hpl]) hlc h1 h2 (ins_of h1) (ins_of h2) h4 h5 h3 (fun e => by cases e) (fun h0 => ?_) (fun j hj => ?_), .mk k v _ (by rw [List.length_map, hpl]; unfold maxLen at hcm; omega) (fun q hq => ?_)⟩
     ·have h0 : 0 < len := h0
      obtain ⟨b, o, spot⟩ := a
      have h0c := (hp 0 h0).2 0 _ rfl
      have hspot : spot = none := by simpa [Addr.add] using World.cell?_spot h0c
      subst hspot
      refine ⟨b, o, rfl, ?_, fun j hj i u hu => ?_⟩
      ·have := World.block_lt_of_cell? W _ h0c
       rwa [Num.add_none, Num.add_none] at this
      ·have e := (hp j hj).2 i u hu
       rwa [Num.add_none, Num.add_none] at e
     ·rw [hgd j hj]; exact (hp j hj).1.1
     ·obtain ⟨p, hp1, rfl⟩ := List.mem_map.1 hq
      obtain ⟨j, hj, rfl⟩ := List.getElem_of_mem hp1
      have := (hp j (by omega)).1.2
      simpa [List.getD, List.getElem?_eq_getElem hj] using this
theorem range {H : Type} {enc : TypeId × Value → H} {W : World} {r : Reach} {b0 : Nat} {x : Value} {d : DataW H} {ps : List MemPlace} (hv : Value.okWide Tryz.prog W r b0 28 x)
  (h : DataW.Trod enc Tryz.prog W 0 (fun _ => true) true 28 x d ps) :
  ∃ (r : Rng) (y : RV), x = .agg #[.int .i64 y.kind, .int .u64 (y.v.a : Int), .int .u64 (y.v.b : Int), .int .u64 (y.v.c : Int), .slice y.A y.v.pre.length y.c, .slice y.B y.v.build.length y.d, .slice y.L y.n y.e] ∧ Range.Lies W (LtB W.heap.size) r y ∧ LenOk r := by
 obtain ⟨cs, rfl, _⟩ := okWide_struct Tryz.underlying28 hv
 obtain ⟨fuel, hf⟩ := h
 obtain ⟨l⟩ := cs
 obtain ⟨r, y, e, h1, h2⟩ := rng_at fuel fuel l _ (Nat.le_refl _) hf
 exact ⟨r, y, by rw [e]; rfl, h1, h2⟩
end Go.Proofs.YtgfbflnhjpbceaaGreatDoor.Came
