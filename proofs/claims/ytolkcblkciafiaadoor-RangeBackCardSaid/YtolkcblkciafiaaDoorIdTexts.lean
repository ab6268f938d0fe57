/-
  A row's text (ident.Text). Conditions: the slice reads as the list xs; at most 40 texts of at most 300 bytes.
-/
import Derived.Test.YtolkcblkciafiaaDoorIdJoin
import Derived.Test.YtolkcblkciafiaaDoorIdGood
import Derived.Test.YtolkcblkciafiaaDoorShelfJoin
namespace Go.Proofs.YtolkcblkciafiaaDoor.Ident
open Go.RowKit Num

set_option maxRecDepth 100000 in
set_option maxHeartbeats 800000 in
theorem text_any (A : Option Addr) (n c : Nat) (xs : List (List UInt8)) (w : World) (hr : SRow w A n xs) (hc : n ≤ c) (hs : shortB xs = true) :
    Calls Tryd.prog 41 #[.slice A n c] w fun e w' => e = .returned (.string (mk (joined xs))) ∧ Below w.heap.size w w' := by
  have HJ : Hid (∀ W, W = w → Calls Tryd.prog 51 #[.slice A n c, .string ⟨#[46]⟩] W fun e w' => e = .returned (.string (mk (joined xs))) ∧ Below w.heap.size w w') := by
    rintro W rfl
    have hn := hr.1
    rw [shortB_iff] at hs
    have hle := joined_le xs hs.2
    rcases Nat.eq_zero_or_pos n with h0 | h0
    · subst h0
      have e : xs = [] := List.eq_nil_of_length_eq_zero hn
      subst e
      refine (Tryd.strings_Join_none A c ⟨#[46]⟩ W).mono ?_
      rintro e w' ⟨rfl, rfl⟩
      exact ⟨rfl, Below.refl _ _⟩
    · obtain ⟨b, o, rfl, hb, hcell⟩ := hr.2 h0
      have e1 : (xs.map mk).map (fun x : ByteArray => x.data.toList) = xs := by
        rw [List.map_map]; exact List.map_id xs
      have := Tryd.strings_Join b o c (xs.map mk) ⟨#[46]⟩ W (fun j x hx => by
        have hj : j < xs.length := by have := (List.getElem?_eq_some_iff.1 hx).1; rwa [List.length_map] at this
        have hx2 : x = mk (xs.getD j []) := by
          rw [List.getElem?_map, List.getElem?_eq_getElem hj] at hx
          simp at hx
          rw [← hx]; simp [List.getD, List.getElem?_eq_getElem hj]
        rw [hx2]; exact hcell j (by omega)) hb (by rw [List.length_map]; omega) (by rw [List.length_map]; omega) (by
          rw [e1]
          show (joined xs).length ≤ _
          omega)
      rw [e1, List.length_map, hn] at this
      exact this
  clear hr hs
  go_enter Tryd.func41, Tryd.ntmps41
  go_wp2_with fail
  refine (HJ.out _ rfl).mono ?_
  rintro e w1 ⟨rfl, hb1⟩
  go_wp2
  go_ret
  exact ⟨rfl, hb1⟩
end Go.Proofs.YtolkcblkciafiaaDoor.Ident
