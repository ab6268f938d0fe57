/-
  What came in, as the walks ask it: a slice of bytes reads as a list of bytes, a slice of texts as a list of texts. No condition beyond the form's own.
-/
import Derived.Test.YtpgfolfhfhfdhaaIdMem
import Derived.ProofKit
import Derived.OpenShut
import Derived.SliceStrings
namespace Go.Proofs.Ytpgfolfhfhfdhaa.Came
open Go.ChangeShapes Go.WideShapes Go.RowKit

theorem bytes {H : Type} {enc : TypeId × Value → H} {W : World} {a : Option Addr} {len cap : Nat} {d : DataW H} {ps : List MemPlace}
    (h : DataW.Trod enc Try.prog W 0 (fun _ => true) true 22 (.slice a len cap) d ps) : ∃ l, Num.Row W a len l ∧ len ≤ cap ∧ (a = none → cap = 0) := by
  obtain ⟨fuel, hf⟩ := h
  rcases open_ints Try.underlying22 Try.underlying5 (by kernel_rfl) hf with ⟨hcs, _⟩ | ⟨x, l, c, zs, hcs, _, hl, hm, hz, _, hcell, hwz⟩
  · simp [Value.cells] at hcs
    obtain ⟨rfl, rfl, rfl⟩ := hcs
    exact Num.Row.of_came (zs := []) (.inl ⟨rfl, rfl, rfl, rfl⟩)
  · simp [Value.cells] at hcs
    obtain ⟨rfl, rfl, rfl⟩ := hcs
    exact Num.Row.of_came (.inr ⟨_, rfl, hl, hm, by simpa using hz, hcell, hwz⟩)

theorem texts_at {H : Type} {enc : TypeId × Value → H} {W : World} {fuel : Nat} {cs : List Value} {y : DataW H × List MemPlace}
    (hf : DataW.trod enc Try.prog W 0 (fun _ => true) true fuel 31 cs = some y) :
    ∃ (a : Option Addr) (len cap : Nat) (xs : List (List UInt8)), cs = [.slice a len cap] ∧ Ident.SRow W a len xs ∧ len ≤ cap ∧ cap ≤ maxLen ∧ (a = none → cap = 0) ∧ ∀ x ∈ xs, x.length ≤ maxLen := by
  rcases open_strings Try.underlying31 Try.underlying9 (by kernel_rfl) hf with ⟨hcs, _⟩ | ⟨x, len, cap, ss, hcs, _, hl, hm, hz, _, hcell, hsz⟩
  · exact ⟨none, 0, 0, [], hcs, Ident.SRow.none_ _ _, Nat.le_refl _, by unfold maxLen; omega, fun _ => rfl, fun x hx => by cases hx⟩
  · have hz : ss.length = cap := by simpa using hz
    refine ⟨some x, len, cap, (ss.take len).map fun s => s.data.toList, hcs, ⟨by simp; omega, fun h0 => ?_⟩, hl, hm, (fun e => by cases e), fun y hy => ?_⟩
    · obtain ⟨b, o, spot⟩ := x
      have h0c := hcell 0 (by omega)
      have hspot : spot = none := by simpa [Addr.add] using World.cell?_spot h0c
      subst hspot
      refine ⟨b, o, rfl, ?_, fun j hj => ?_⟩
      · have := World.block_lt_of_cell? W _ h0c
        rwa [Num.add_none] at this
      · have hj2 : j < ss.length := by omega
        have e := hcell j hj2
        rw [Num.add_none] at e
        rw [e]
        simp [hj, List.getElem?_eq_getElem hj2, Ident.mk]
    · simp only [List.mem_map] at hy
      obtain ⟨s, hs, rfl⟩ := hy
      rw [← Lib.size_eq]
      exact hsz s (List.mem_of_mem_take hs)
theorem texts {H : Type} {enc : TypeId × Value → H} {W : World} {a : Option Addr} {len cap : Nat} {d : DataW H} {ps : List MemPlace}
    (h : DataW.Trod enc Try.prog W 0 (fun _ => true) true 31 (.slice a len cap) d ps) :
    ∃ xs, Ident.SRow W a len xs ∧ len ≤ cap ∧ cap ≤ maxLen ∧ (a = none → cap = 0) ∧ ∀ x ∈ xs, x.length ≤ maxLen := by
  obtain ⟨fuel, hf⟩ := h
  obtain ⟨a', len', cap', xs, hcs, h1, h2, h3, h4, h5⟩ := texts_at hf
  simp [Value.cells] at hcs
  obtain ⟨rfl, rfl, rfl⟩ := hcs
  exact ⟨xs, h1, h2, h3, h4, h5⟩
end Go.Proofs.Ytpgfolfhfhfdhaa.Came
