/-
  A map from texts to numbers, as it reads: it has just the texts of a list, each with its place there. Conditions: as each theorem states.
-/
import Derived.Maps.OwnSet
import Derived.Test.YtpgfolfhfhfdhaaNaMath
namespace Go.Proofs.Ytpgfolfhfhfdhaa.Name
open Go.RowKit Num
open Go.Maps (IsMap)
/-- The map's datum D holds just the texts of x, each with its first place. -/
structure Numbers (D : DataW Unit) (x : List (List UInt8)) : Prop where
  map : IsMap D
  has : ∀ s, Maps.has D (.string s) = decide (s ∈ x)
  num : ∀ s, s ∈ x → D.atKey (.string s) (.lit (.int .i64 0)) = .lit (.int .i64 ((find x s : Nat) : Int))
theorem Numbers.empty : Numbers (.map []) [] := ⟨Go.Maps.isMap_empty, fun s => by simp [Maps.has], fun s h => by cases h⟩
theorem Numbers.add {D : DataW Unit} {x : List (List UInt8)} {s : List UInt8} (h : Numbers D x) (hs : s ∉ x) : Numbers (D.put (.string s) (.lit (.int .i64 ((x.length : Nat) : Int)))) (x ++ [s]) := by
  refine ⟨h.map.put _ _, fun t => ?_, fun t ht => ?_⟩
  · by_cases e : t = s
    · subst e
      rw [Go.Maps.has_put_same h.map (show WideAt.IsKeyLit (.string t) from by simp [WideAt.IsKeyLit])]; simp
    · rw [Go.Maps.has_put_other (fun e2 => e (by injection e2)), h.has]; simp [e]
  · by_cases e : t = s
    · subst e
      rw [Go.Maps.atKey_put_same h.map (show WideAt.IsKeyLit (.string t) from by simp [WideAt.IsKeyLit]), find_snoc_new hs]
    · have hx : t ∈ x := by simpa [e] using ht
      rw [Go.Maps.atKey_put_other (fun e2 => e (by injection e2)), h.num t hx, find_snoc_old (find_lt.2 hx)]
theorem Numbers.miss {D : DataW Unit} {x : List (List UInt8)} {s : List UInt8} (h : Numbers D x) (hs : s ∉ x) : Maps.has D (.string s) = false := by rw [h.has]; simp [hs]
theorem Numbers.hit {D : DataW Unit} {x : List (List UInt8)} {s : List UInt8} (h : Numbers D x) (hs : s ∈ x) : Maps.has D (.string s) = true := by rw [h.has]; simp [hs]
end Go.Proofs.Ytpgfolfhfhfdhaa.Name
