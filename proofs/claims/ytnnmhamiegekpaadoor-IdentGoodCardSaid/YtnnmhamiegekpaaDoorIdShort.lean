/-
  Whether rows are few and short (ferrulelaw02.short). Condition: the slice reads as the list xs.
-/
import Derived.Test.YtnnmhamiegekpaaDoorIdMem
namespace Go.Proofs.YtnnmhamiegekpaaDoor.Ident
open Go.RowKit Num

def shortB (xs : List (List UInt8)) : Bool := decide (xs.length ≤ 40 ∧ ∀ x ∈ xs, x.length ≤ 300)
theorem shortB_iff (xs : List (List UInt8)) : shortB xs = true ↔ xs.length ≤ 40 ∧ ∀ x ∈ xs, x.length ≤ 300 := by simp [shortB]
theorem shortB_no (xs : List (List UInt8)) : shortB xs = false ↔ ¬ (xs.length ≤ 40 ∧ ∀ x ∈ xs, x.length ≤ 300) := by
  rw [← shortB_iff]; cases shortB xs <;> simp

set_option maxHeartbeats 800000 in
theorem short_any (A : Option Addr) (n c : Nat) (xs : List (List UInt8)) (w : World) (hr : SRow w A n xs) (hn : n ≤ maxLen) :
    Calls Tryd.prog 11 #[.slice A n c] w fun e w' => e = .returned (.bool (shortB xs)) ∧ w = w' := by
  unfold maxLen at hn
  have HR := Lib.hid hr
  have HL := Lib.hid hr.1
  clear hr
  by_cases h0 : 40 < n
  · have HF : Hid (shortB xs = false) := (shortB_no xs).2 fun h => by have := HL.out; omega
    go_enter Tryd.func11, Tryd.ntmps11
    go_wp2
    go_ret
    exact ⟨by rw [HF.out]; rfl, rfl⟩
  · go_enter Tryd.func11, Tryd.ntmps11
    go_wp2
    go_loop [3] (fun i => ∃ k : Nat, k ≤ n ∧ i = .int .i64 k ∧ Hid (∀ j, j < k → (xs.getD j []).length ≤ 300)) (fun i => n - (intOf i).toNat)
    case atStart => exact ⟨0, Nat.zero_le _, rfl, fun j hj => by omega⟩
    case round =>
      obtain ⟨k, hk, rfl, HD⟩ := hrel
      by_cases hlt : k < n
      · obtain ⟨b, o, rfl, hb, hcell⟩ := HR.out.2 (by omega)
        have hx := hcell k hlt
        clear hcell
        obtain ⟨s, hs⟩ : ∃ s, mk (xs.getD k []) = s := ⟨_, rfl⟩
        have HS : Hid ((xs.getD k []).length = s.size) := by rw [← hs]; exact rfl
        rw [hs] at hx
        clear hs
        by_cases h3 : 300 < s.size
        · have HF : Hid (shortB xs = false) := (shortB_no xs).2 fun h => by
            have h4 := h.2 (xs.getD k []) (by simp [List.getD, List.getElem?_eq_getElem (show k < xs.length by rw [HL.out]; exact hlt)])
            rw [HS.out] at h4; omega
          go_wp2
          go_ret
          exact ⟨by rw [HF.out]; rfl, rfl⟩
        · go_wp2
          go_round
          case rel =>
            refine ⟨k + 1, by omega, by go_num, fun j hj => ?_⟩
            rcases Nat.lt_or_ge j k with hj1 | hj1
            · exact HD.out j hj1
            · obtain rfl : j = k := by omega
              rw [HS.out]; omega
          case measure => simp [intOf]; omega
      · have HF : Hid (shortB xs = true) := (shortB_iff xs).2 ⟨by rw [HL.out]; omega, fun x hx => by
          obtain ⟨j, hj, rfl⟩ := List.getElem_of_mem hx
          have h4 := HD.out j (by have := HL.out; omega)
          simpa [List.getD, List.getElem?_eq_getElem hj] using h4⟩
        go_wp2
        go_ret
        exact ⟨by rw [HF.out]; rfl, rfl⟩
end Go.Proofs.YtnnmhamiegekpaaDoor.Ident
