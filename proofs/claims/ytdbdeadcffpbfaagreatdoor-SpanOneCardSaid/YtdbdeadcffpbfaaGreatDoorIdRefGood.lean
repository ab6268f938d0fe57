/-
  The document's own look at which rows are good (ferruleref02.Good). Conditions: the slice reads as the list xs; the lengths are those that the form allows.
-/
import Derived.Test.YtdbdeadcffpbfaaGreatDoorIdGoodMath
import Derived.Test.YtdbdeadcffpbfaaGreatDoorIdMem
import Derived.Test.YtdbdeadcffpbfaaGreatDoorIdRef
namespace Go.Proofs.YtdbdeadcffpbfaaGreatDoor.Ident
open Go.RowKit Num

theorem lead_no {x : List UInt8} {j : Nat} (hj : j < x.length) (h : isId (x.getD j 0) = false) : lead x ≠ x.length := by
  intro e
  have := lead_full.1 e (x.getD j 0) (by simp [List.getD, List.getElem?_eq_getElem hj])
  rw [h] at this; cases this
theorem lead_yes {x : List UInt8} (h : ∀ j, j < x.length → isId (x.getD j 0) = true) : lead x = x.length :=
  lead_stop x x.length (Nat.le_refl _) h (.inl rfl)
set_option maxRecDepth 100000 in
set_option maxHeartbeats 1600000 in
theorem ref_good_all (A : Option Addr) (n c : Nat) (xs : List (List UInt8)) (pre : Bool) (w : World) (hr : SRow w A n xs) (hn : n ≤ maxLen) (hs : ∀ x ∈ xs, x.length ≤ maxLen) :
    Calls Tryz.prog 41 #[.slice A n c, .bool pre] w fun e w' => e = .returned (.bool (goodFrom pre xs 0)) ∧ w = w' := by
  have HR := Lib.hid hr
  have HL := Lib.hid hr.1
  have HS := Lib.hid hs
  have HM := Lib.hid hn
  unfold maxLen at hn
  clear hr hs
  go_enter Tryz.func41, Tryz.ntmps41
  go_wp2
  go_loop [5] (fun i => ∃ k : Nat, k ≤ n ∧ i = .int .i64 k ∧ Hid (goodFrom pre (xs.drop k) k = goodFrom pre xs 0)) (fun i => n - (intOf i).toNat)
  case atStart => exact ⟨0, Nat.zero_le _, rfl, rfl⟩
  case round =>
    obtain ⟨k, hk, rfl, HG⟩ := hrel
    by_cases hlt : k < n
    · obtain ⟨b, o, rfl, hb, hcell⟩ := HR.out.2 (by omega)
      have hx := hcell k hlt
      clear hcell
      have HKL : Hid (k < xs.length) := by unfold Hid; rw [HL.out]; exact hlt
      have hlx : (xs.getD k []).length ≤ maxLen := HS.out _ (by have h := HKL.out; simp [List.getD, List.getElem?_eq_getElem h])
      have HST := Lib.hid (fun h1 h2 => goodFrom_step (pre := pre) HKL.out h1 h2)
      have HSP := Lib.hid (fun h => goodFrom_stop (pre := pre) HKL.out h)
      generalize xs.getD k [] = s at hx hlx HST HSP
      go_wp2_with fail
      refine (wrong_all (mk s) k pre _ (by rw [mk_size]; exact hlx) (by unfold maxLen; omega)).mono ?_
      rw [mk_list]
      rintro e w' ⟨rfl, rfl⟩
      have HFP : Hid (fault s k pre = 0 → s.length ≤ 255) := fun h => (fault_pos h).2.1
      generalize fault s k pre = f at HST HSP HFP
      by_cases hf0 : f = 0
      · subst hf0
        have HST2 := Lib.hid (HST.out rfl)
        clear HST
        have hz : (mk s).size ≤ 300 := Nat.le_trans (HFP.out rfl) (by omega)
        clear hlx HFP
        go_wp2
        go_loop [6] (fun j => ∃ m : Nat, m ≤ (mk s).size ∧ j = .int .i64 m ∧ Hid (∀ j, j < m → isId (s.getD j 0) = true)) (fun j => (mk s).size - (intOf j).toNat)
        case atStart => exact ⟨0, Nat.zero_le _, rfl, fun j hj => by omega⟩
        case round =>
          obtain ⟨m, hm, rfl, HD⟩ := hrel
          by_cases hml : m < (mk s).size
          · have HX := Lib.hid (at_text (mk s) m hml)
            have hbd := byteAt_bd s m
            have HI : Hid (isId (s.getD m 0) = idB (byteAt s m)) := (idB_at _).symm
            rw [mk_list] at HX
            rw [← HX.out] at hbd HI
            obtain ⟨hx0, hx1⟩ := hbd
            go_wp2_with fail
            refine (ref_byte_any _ _ hx0 hx1).mono ?_
            rintro e w' ⟨rfl, rfl⟩
            cases h1 : idB ((mk s)[m].toNat : Int)
            · have HF : Hid (goodFrom pre xs 0 = false) := by
                unfold Hid
                rw [← HG.out]
                exact HSP.out (.inr (lead_no hml (by rw [HI.out]; exact h1)))
              have H1 := Lib.hid h1; clear h1
              go_wp2
              go_ret
              exact ⟨by rw [HF.out]; rfl, rfl⟩
            · have HN : Hid (∀ j, j < m + 1 → isId (s.getD j 0) = true) := fun j hj => by
                rcases Nat.lt_or_ge j m with hj1 | hj1
                · exact HD.out j hj1
                · obtain rfl : j = m := by omega
                  rw [HI.out]; exact h1
              have H1 := Lib.hid h1; clear h1
              go_wp2
              exact ⟨⟨m + 1, by omega, by go_num, HN.out⟩, by simp [intOf]; omega⟩
          · have HF : Hid (goodFrom pre (xs.drop (k + 1)) (k + 1) = goodFrom pre xs 0) := by
              unfold Hid
              rw [← HG.out, ← HST2.out (lead_yes (fun j hj => HD.out j (by have : (mk s).size = s.length := rfl; omega)))]
            go_wp2
            exact ⟨⟨k + 1, by omega, by go_num, HF.out⟩, by simp [intOf]; omega⟩
      · have HF : Hid (goodFrom pre xs 0 = false) := by
          unfold Hid
          rw [← HG.out]
          exact HSP.out (.inl hf0)
        go_wp2
        go_ret
        exact ⟨by rw [HF.out]; rfl, rfl⟩
    · have HF : Hid (goodFrom pre xs 0 = true) := by
        unfold Hid
        rw [← HG.out, List.drop_eq_nil_of_le (by rw [HL.out]; omega), goodFrom]
      go_wp2
      go_ret
      exact ⟨by rw [HF.out]; rfl, rfl⟩
end Go.Proofs.YtdbdeadcffpbfaaGreatDoor.Ident
