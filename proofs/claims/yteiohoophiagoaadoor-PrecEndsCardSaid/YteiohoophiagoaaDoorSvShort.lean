/-
  Whether a version's rows are few and short (the law's own short). Condition: the rows read as the lists pre and build.
-/
import Derived.Test.YteiohoophiagoaaDoorSvMem
namespace Go.Proofs.YteiohoophiagoaaDoor.Semver
open Go.RowKit Num Ident

set_option maxRecDepth 100000 in
set_option maxHeartbeats 1600000 in
theorem vshort_any (v : Ver) (A : Option Addr) (c : Nat) (B : Option Addr) (d : Nat) (w : World) (hr1 : SRow w A v.pre.length v.pre) (hr2 : SRow w B v.build.length v.build) (hn1 : v.pre.length ≤ maxLen) (hn2 : v.build.length ≤ maxLen) :
    Calls Tryd.prog 7 #[.agg #[.int .u64 (v.a : Int), .int .u64 (v.b : Int), .int .u64 (v.c : Int), .slice A v.pre.length c, .slice B v.build.length d]] w fun e w' => e = .returned (.bool (shortB v.pre && shortB v.build)) ∧ Below w.heap.size w w' := by
  unfold maxLen at hn1 hn2
  have HBa : Hid (Below w.heap.size w (w.alloc (.cells #[.int .u64 (v.a : Int), .int .u64 (v.b : Int), .int .u64 (v.c : Int), .slice A v.pre.length c, .slice B v.build.length d] 25))) := (Below.refl _ _).alloc (Nat.le_refl _) _
  have R1 := Lib.hid hr1
  have R2 := Lib.hid hr2
  clear hr1 hr2
  by_cases h1 : 40 < v.pre.length
  · have HF : Hid (shortB v.pre = false) := (shortB_no _).2 fun h => by omega
    go_enter Tryd.func7, Tryd.ntmps7
    go_wp2
    go_ret
    exact ⟨by rw [HF.out]; rfl, HBa.out⟩
  by_cases h2 : 40 < v.build.length
  · have HF : Hid (shortB v.build = false) := (shortB_no _).2 fun h => by omega
    go_enter Tryd.func7, Tryd.ntmps7
    go_wp2
    go_ret
    exact ⟨by rw [HF.out]; simp, HBa.out⟩
  go_enter Tryd.func7, Tryd.ntmps7
  go_wp2
  go_loop [3] (fun i => ∃ k : Nat, k ≤ v.pre.length ∧ i = .int .i64 k ∧ Hid (∀ j, j < k → (v.pre.getD j []).length ≤ 300)) (fun i => v.pre.length - (intOf i).toNat)
  case atStart => exact ⟨0, Nat.zero_le _, rfl, fun j hj => by omega⟩
  case round =>
    obtain ⟨k, hk, rfl, HD⟩ := hrel
    by_cases hlt : k < v.pre.length
    · obtain ⟨b, o, rfl, hb, hcell⟩ := R1.out.2 (by omega)
      have hx := hcell k hlt
      have hbne : b ≠ w.heap.size := by omega
      clear hcell
      obtain ⟨s, hs⟩ : ∃ s, mk (v.pre.getD k []) = s := ⟨_, rfl⟩
      have HS : Hid ((v.pre.getD k []).length = s.size) := by rw [← hs]; exact rfl
      have HM : Hid (v.pre.getD k [] ∈ v.pre) := by unfold Hid; simp [List.getD, List.getElem?_eq_getElem hlt]
      rw [hs] at hx
      clear hs
      by_cases h3 : 300 < s.size
      · have HF : Hid (shortB v.pre = false) := (shortB_no _).2 fun h => by have h4 := h.2 _ HM.out; rw [HS.out] at h4; omega
        go_wp2
        go_ret
        exact ⟨by rw [HF.out]; simp, HBa.out⟩
      · go_wp2
        go_round
        case rel =>
          refine ⟨k + 1, by omega, by go_num, fun j hj => ?_⟩
          rcases Nat.lt_or_ge j k with hj1 | hj1
          · exact HD.out j hj1
          · obtain rfl : j = k := by omega
            rw [HS.out]; omega
        case measure => simp [intOf]; omega
    · have HF0 : Hid (shortB v.pre = true) := (shortB_iff _).2 ⟨by omega, fun x hx => by
        obtain ⟨j, hj, rfl⟩ := List.getElem_of_mem hx
        have h4 := HD.out j (by omega)
        simpa [List.getD, List.getElem?_eq_getElem hj] using h4⟩
      go_wp2
      clear hk HD hlt
      go_loop [4] (fun i => ∃ k : Nat, k ≤ v.build.length ∧ i = .int .i64 k ∧ Hid (∀ j, j < k → (v.build.getD j []).length ≤ 300)) (fun i => v.build.length - (intOf i).toNat)
      case atStart => exact ⟨0, Nat.zero_le _, rfl, fun j hj => by omega⟩
      case round =>
        obtain ⟨k, hk, rfl, HD⟩ := hrel
        by_cases hlt : k < v.build.length
        · obtain ⟨b, o, rfl, hb, hcell⟩ := R2.out.2 (by omega)
          have hx := hcell k hlt
          have hbne : b ≠ w.heap.size := by omega
          clear hcell
          obtain ⟨s, hs⟩ : ∃ s, mk (v.build.getD k []) = s := ⟨_, rfl⟩
          have HS : Hid ((v.build.getD k []).length = s.size) := by rw [← hs]; exact rfl
          have HM : Hid (v.build.getD k [] ∈ v.build) := by unfold Hid; simp [List.getD, List.getElem?_eq_getElem hlt]
          rw [hs] at hx
          clear hs
          by_cases h3 : 300 < s.size
          · have HF : Hid (shortB v.build = false) := (shortB_no _).2 fun h => by have h4 := h.2 _ HM.out; rw [HS.out] at h4; omega
            go_wp2
            go_ret
            exact ⟨by rw [HF.out]; simp, HBa.out⟩
          · go_wp2
            go_round
            case rel =>
              refine ⟨k + 1, by omega, by go_num, fun j hj => ?_⟩
              rcases Nat.lt_or_ge j k with hj1 | hj1
              · exact HD.out j hj1
              · obtain rfl : j = k := by omega
                rw [HS.out]; omega
            case measure => simp [intOf]; omega
        · have HF1 : Hid (shortB v.build = true) := (shortB_iff _).2 ⟨by omega, fun x hx => by
            obtain ⟨j, hj, rfl⟩ := List.getElem_of_mem hx
            have h4 := HD.out j (by omega)
            simpa [List.getD, List.getElem?_eq_getElem hj] using h4⟩
          go_wp2
          go_ret
          exact ⟨by rw [HF0.out, HF1.out]; rfl, HBa.out⟩
end Go.Proofs.YteiohoophiagoaaDoor.Semver
