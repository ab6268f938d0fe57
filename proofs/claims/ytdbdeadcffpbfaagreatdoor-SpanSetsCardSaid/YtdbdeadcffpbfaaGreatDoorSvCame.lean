/-
  A version that came in: its numbers fit, its rows read as lists of texts. No condition beyond the form's own.
-/
import Derived.Test.YtdbdeadcffpbfaaGreatDoorCame
import Derived.Test.YtdbdeadcffpbfaaGreatDoorSvMath
import Derived.Deep.Fields
namespace Go.Proofs.YtdbdeadcffpbfaaGreatDoor.Came
open Go.ChangeShapes Go.WideShapes Go.RowKit Go.Deep

/-- A version as a value, over a world. -/
def IsVer (W : World) (x : Value) (v : Semver.Ver) (A : Option Addr) (c : Nat) (B : Option Addr) (e : Nat) : Prop :=
  x = .agg #[.int .u64 (v.a : Int), .int .u64 (v.b : Int), .int .u64 (v.c : Int), .slice A v.pre.length c, .slice B v.build.length e] ∧ v.a < 18446744073709551616 ∧ v.b < 18446744073709551616 ∧ v.c < 18446744073709551616 ∧
    Ident.SRow W A v.pre.length v.pre ∧ v.pre.length ≤ c ∧ c ≤ maxLen ∧ Ident.SRow W B v.build.length v.build ∧ v.build.length ≤ e ∧ e ≤ maxLen

theorem field_read {H : Type} {enc : TypeId × Value → H} {W : World} {n : Nat} {z : Value} {y : DataW H × List MemPlace} (h : DataW.trod enc Tryz.prog W 0 (fun _ => true) true n 29 [z] = some y) : ∃ a : Nat, z = .int .u64 (a : Int) ∧ a < 18446744073709551616 := by
  obtain ⟨m, hm, _, hw⟩ := DataW.trod_int Tryz.underlying29 h
  have hb : 0 ≤ m ∧ m ≤ 18446744073709551615 := by simpa [Lit.wf, IntKind.min, IntKind.max, IntKind.signed, IntKind.bits] using hw
  obtain ⟨a, rfl⟩ := Int.eq_ofNat_of_zero_le hb.1
  simp at hm
  exact ⟨a, hm, by omega⟩

set_option maxRecDepth 100000 in
theorem version {H : Type} {enc : TypeId × Value → H} {W : World} {r : Reach} {b0 : Nat} {x : Value} {d : DataW H} {ps : List MemPlace} (hv : Value.okWide Tryz.prog W r b0 32 x)
    (h : DataW.Trod enc Tryz.prog W 0 (fun _ => true) true 32 x d ps) : ∃ v A c B e, IsVer W x v A c B e := by
  have hC : Tryz.prog.cellsOf 32 = 5 := by kernel_rfl
  have cu : Tryz.prog.cellsOf 29 = 1 := by kernel_rfl
  have ct : Tryz.prog.cellsOf 30 = 1 := by kernel_rfl
  obtain ⟨cs, rfl, hsz⟩ := okWide_struct Tryz.underlying32 hv
  obtain ⟨fuel, hf⟩ := h
  obtain ⟨xs, n, _, _, _, hlen, hg⟩ := DataW.trod_struct Tryz.underlying32 hf
  have hl : xs.length = 5 := hlen
  rw [hC] at hsz
  obtain ⟨l⟩ := cs
  have hsz : l.length = 5 := hsz
  match l, hsz with
  | [z0, z1, z2, z3, z4], _ =>
    match xs, hl with
    | [y0, y1, y2, y3, y4], _ =>
      have f0 : DataW.trod enc Tryz.prog W 0 (fun _ => true) true n 29 (([z0, z1, z2, z3, z4].drop 0).take (Tryz.prog.cellsOf 29)) = some y0 := hg 0 _ rfl
      rw [cu] at f0
      have g0 : DataW.trod enc Tryz.prog W 0 (fun _ => true) true n 29 [z0] = some y0 := f0
      have f1 : DataW.trod enc Tryz.prog W 0 (fun _ => true) true n 29 (([z0, z1, z2, z3, z4].drop 1).take (Tryz.prog.cellsOf 29)) = some y1 := hg 1 _ rfl
      rw [cu] at f1
      have g1 : DataW.trod enc Tryz.prog W 0 (fun _ => true) true n 29 [z1] = some y1 := f1
      have f2 : DataW.trod enc Tryz.prog W 0 (fun _ => true) true n 29 (([z0, z1, z2, z3, z4].drop 2).take (Tryz.prog.cellsOf 29)) = some y2 := hg 2 _ rfl
      rw [cu] at f2
      have g2 : DataW.trod enc Tryz.prog W 0 (fun _ => true) true n 29 [z2] = some y2 := f2
      have f3 : DataW.trod enc Tryz.prog W 0 (fun _ => true) true n 30 (([z0, z1, z2, z3, z4].drop 3).take (Tryz.prog.cellsOf 30)) = some y3 := hg 3 _ rfl
      rw [ct] at f3
      have g3 : DataW.trod enc Tryz.prog W 0 (fun _ => true) true n 30 [z3] = some y3 := f3
      have f4 : DataW.trod enc Tryz.prog W 0 (fun _ => true) true n 30 (([z0, z1, z2, z3, z4].drop 4).take (Tryz.prog.cellsOf 30)) = some y4 := hg 4 _ rfl
      rw [ct] at f4
      have g4 : DataW.trod enc Tryz.prog W 0 (fun _ => true) true n 30 [z4] = some y4 := f4
      clear f0 f1 f2 f3 f4 hg
      obtain ⟨a, rfl, ha⟩ := field_read g0
      obtain ⟨b, rfl, hb⟩ := field_read g1
      obtain ⟨c, rfl, hc⟩ := field_read g2
      obtain ⟨A, m1, c1, p, e1, r1, q1, k1, _⟩ := texts_at g3
      obtain ⟨B, m2, c2, t, e2, r2, q2, k2, _⟩ := texts_at g4
      simp at e1 e2
      subst e1
      subst e2
      obtain rfl := r1.1
      obtain rfl := r2.1
      exact ⟨⟨a, b, c, p, t⟩, A, c1, B, c2, rfl, ha, hb, hc, r1, q1, k1, r2, q2, k2⟩
end Go.Proofs.YtdbdeadcffpbfaaGreatDoor.Came
