/-
  The document's own text of a row and its own look at which rows are good (ferruleref02.Text, Good). Conditions: the slice reads as the list xs; at most 40 texts of at most 300 bytes.
-/
import Derived.Test.YteiohoophiagoaaDoorIdJoin
import Derived.Test.YteiohoophiagoaaDoorIdRef
namespace Go.Proofs.YteiohoophiagoaaDoor.Ident
open Go.RowKit Num

set_option maxHeartbeats 800000 in
theorem ref_text_any (A : Option Addr) (n c : Nat) (xs : List (List UInt8)) (w : World) (hr : SRow w A n xs) (hs : shortB xs = true) :
    Calls Tryd.prog 27 #[.slice A n c] w fun e w' => e = .returned (.string (mk (joined xs))) ∧ w = w' := by
  rw [shortB_iff] at hs
  have HR := Lib.hid hr
  have HL := Lib.hid hr.1
  have hn : n ≤ 40 := by have := hs.1; have := hr.1; omega
  have HS := Lib.hid hs.2
  clear hr hs
  go_enter Tryd.func27, Tryd.ntmps27
  go_wp2
  go_loop [3, 4] (fun t i => ∃ k : Nat, k ≤ n ∧ i = .int .i64 k ∧ t = .string (mk (joined (xs.take k)))) (fun _ i => n - (intOf i).toNat)
  case atStart => exact ⟨0, Nat.zero_le _, rfl, rfl⟩
  case round =>
    obtain ⟨k, hk, rfl, rfl⟩ := hrel
    by_cases hlt : k < n
    · obtain ⟨b, o, rfl, hb, hcell⟩ := HR.out.2 (by omega)
      have hx := hcell k hlt
      clear hcell
      have hkl : k < xs.length := by rw [HL.out]; exact hlt
      have hlx : (xs.getD k []).length ≤ 300 := HS.out _ (by simp [List.getD, List.getElem?_eq_getElem hkl])
      have hlt2 : (joined (xs.take k)).length ≤ 12040 := by
        have h1 := joined_le (xs.take k) (fun x hx => HS.out x (List.mem_of_mem_take hx))
        have h2 : (xs.take k).length ≤ 40 := by rw [List.length_take]; omega
        omega
      have HN : Hid (joined (xs.take (k + 1)) = if 0 < k then joined (xs.take k) ++ [46] ++ xs.getD k [] else xs.getD k []) := by
        unfold Hid
        rw [take_texts xs k hkl]
        by_cases h0 : 0 < k
        · rw [if_pos h0, joined_snoc]
          intro h
          have : (xs.take k).length = 0 := by rw [h]; rfl
          rw [List.length_take] at this; omega
        · have : k = 0 := by omega
          subst this
          rw [if_neg h0]; exact joined_one _
      clear hkl
      have HT0 : Hid (k = 0 → joined (xs.take k) = []) := fun h => by rw [h]; rfl
      generalize xs.getD k [] = x at hx hlx HN
      generalize joined (xs.take k) = t at hlt2 HN HT0
      have hz1 : (mk t).size ≤ 12040 := hlt2
      have hz2 : (mk x).size ≤ 300 := hlx
      by_cases h0 : 0 < k
      · have HN2 : Hid (joined (xs.take (k + 1)) = t ++ [46] ++ x) := by have := HN.out; rw [if_pos h0] at this; exact this
        have e1 := mk_point t
        have e2 := mk_cat (t ++ [46]) x
        have hz3 : (mk (t ++ [46])).size ≤ 12041 := by rw [mk_size, List.length_append]; simp; exact hlt2
        have hc1 : ¬ 9223372036854775807 < (mk t).size + 1 := by omega
        have hc2 : ¬ 9223372036854775807 < (mk (t ++ [46])).size + (mk x).size := by omega
        generalize hu : t ++ [46] = u at e1 e2 hz3 hc2 HN2
        generalize hv : u ++ x = v at e2 HN2
        clear hu hv HN HT0
        go_wp2
        exact ⟨⟨k + 1, by omega, by go_num, by rw [HN2.out]⟩, by simp [intOf]; omega⟩
      · have hk0 : k = 0 := by omega
        have HN2 : Hid (joined (xs.take (k + 1)) = t ++ x) := by
          have := HN.out; rw [if_neg h0] at this
          unfold Hid
          rw [this, HT0.out hk0]; rfl
        have e2 := mk_cat t x
        have hc2 : ¬ 9223372036854775807 < (mk t).size + (mk x).size := by omega
        generalize hv : t ++ x = v at e2 HN2
        clear hv HN HT0 hk0
        go_wp2
        exact ⟨⟨k + 1, by omega, by go_num, by rw [HN2.out]⟩, by simp [intOf]; omega⟩
    · have HF : Hid (xs.take k = xs) := List.take_of_length_le (by rw [HL.out]; omega)
      go_wp2
      go_ret
      exact ⟨by rw [HF.out]; rfl, rfl⟩
theorem lead_no {x : List UInt8} {j : Nat} (hj : j < x.length) (h : isId (x.getD j 0) = false) : lead x ≠ x.length := by
  intro e
  have := lead_full.1 e (x.getD j 0) (by simp [List.getD, List.getElem?_eq_getElem hj])
  rw [h] at this; cases this
theorem lead_yes {x : List UInt8} (h : ∀ j, j < x.length → isId (x.getD j 0) = true) : lead x = x.length :=
  lead_stop x x.length (Nat.le_refl _) h (.inl rfl)
set_option maxHeartbeats 1600000 in
theorem ref_good_any (A : Option Addr) (n c : Nat) (xs : List (List UInt8)) (pre : Bool) (w : World) (hr : SRow w A n xs) (hs : shortB xs = true) :
    Calls Tryd.prog 22 #[.slice A n c, .bool pre] w fun e w' => e = .returned (.bool (goodFrom pre xs 0)) ∧ w = w' := by
  rw [shortB_iff] at hs
  have HR := Lib.hid hr
  have HL := Lib.hid hr.1
  have hn : n ≤ 40 := by have := hs.1; have := hr.1; omega
  have HS := Lib.hid hs.2
  clear hr hs
  go_enter Tryd.func22, Tryd.ntmps22
  go_wp2
  go_loop [5] (fun i => ∃ k : Nat, k ≤ n ∧ i = .int .i64 k ∧ Hid (goodFrom pre (xs.drop k) k = goodFrom pre xs 0)) (fun i => n - (intOf i).toNat)
  case atStart => exact ⟨0, Nat.zero_le _, rfl, rfl⟩
  case round =>
    obtain ⟨k, hk, rfl, HG⟩ := hrel
    by_cases hlt : k < n
    · obtain ⟨b, o, rfl, hb, hcell⟩ := HR.out.2 (by omega)
      have hx := hcell k hlt
      clear hcell
      have HKL : Hid (k < xs.length) := by unfold Hid; rw [HL.out]; exact hlt
      have hlx : (xs.getD k []).length ≤ 300 := HS.out _ (by have h := HKL.out; simp [List.getD, List.getElem?_eq_getElem h])
      have HST := Lib.hid (fun h1 h2 => goodFrom_step (pre := pre) HKL.out h1 h2)
      have HSP := Lib.hid (fun h => goodFrom_stop (pre := pre) HKL.out h)
      generalize xs.getD k [] = s at hx hlx HST HSP
      go_wp2_with fail
      refine (wrong_any (mk s) k pre _ (by rw [mk_size]; omega) (by unfold maxLen; omega)).mono ?_
      rw [mk_list]
      rintro e w' ⟨rfl, rfl⟩
      generalize fault s k pre = f at HST HSP
      by_cases hf0 : f = 0
      · subst hf0
        have HST2 := Lib.hid (HST.out rfl)
        clear HST
        have hz : (mk s).size ≤ 300 := hlx
        go_wp2
        go_loop [6] (fun j => ∃ m : Nat, m ≤ (mk s).size ∧ j = .int .i64 m ∧ Hid (∀ j, j < m → isId (s.getD j 0) = true)) (fun j => (mk s).size - (intOf j).toNat)
        case atStart => exact ⟨0, Nat.zero_le _, rfl, fun j hj => by omega⟩
        case round =>
          obtain ⟨m, hm, rfl, HD⟩ := hrel
          by_cases hml : m < (mk s).size
          · have HX := Lib.hid (at_text (mk s) m hml)
            have hbd := byteAt_bd s m
            have HI : Hid (isId (s.getD m 0) = idB (byteAt s m)) := (idB_at _).symm
            rw [mk_list] at HX
            rw [← HX.out] at hbd HI
            obtain ⟨hx0, hx1⟩ := hbd
            go_wp2_with fail
            refine (ref_byte_any _ _ hx0 hx1).mono ?_
            rintro e w' ⟨rfl, rfl⟩
            cases h1 : idB ((mk s)[m].toNat : Int)
            · have HF : Hid (goodFrom pre xs 0 = false) := by
                unfold Hid
                rw [← HG.out]
                exact HSP.out (.inr (lead_no hml (by rw [HI.out]; exact h1)))
              have H1 := Lib.hid h1; clear h1
              go_wp2
              go_ret
              exact ⟨by rw [HF.out]; rfl, rfl⟩
            · have HN : Hid (∀ j, j < m + 1 → isId (s.getD j 0) = true) := fun j hj => by
                rcases Nat.lt_or_ge j m with hj1 | hj1
                · exact HD.out j hj1
                · obtain rfl : j = m := by omega
                  rw [HI.out]; exact h1
              have H1 := Lib.hid h1; clear h1
              go_wp2
              exact ⟨⟨m + 1, by omega, by go_num, HN.out⟩, by simp [intOf]; omega⟩
          · have HF : Hid (goodFrom pre (xs.drop (k + 1)) (k + 1) = goodFrom pre xs 0) := by
              unfold Hid
              rw [← HG.out, ← HST2.out (lead_yes (fun j hj => HD.out j (by have : (mk s).size = s.length := rfl; omega)))]
            go_wp2
            exact ⟨⟨k + 1, by omega, by go_num, HF.out⟩, by simp [intOf]; omega⟩
      · have HF : Hid (goodFrom pre xs 0 = false) := by
          unfold Hid
          rw [← HG.out]
          exact HSP.out (.inl hf0)
        go_wp2
        go_ret
        exact ⟨by rw [HF.out]; rfl, rfl⟩
    · have HF : Hid (goodFrom pre xs 0 = true) := by
        unfold Hid
        rw [← HG.out, List.drop_eq_nil_of_le (by rw [HL.out]; omega), goodFrom]
      go_wp2
      go_ret
      exact ⟨by rw [HF.out]; rfl, rfl⟩
end Go.Proofs.YteiohoophiagoaaDoor.Ident
