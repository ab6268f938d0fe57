/-
  A row's text (ident.Text), the document's own text and its own look at which rows are good (ferruleref02.Text, Good): the same as the program's; a good row's text is read as it. Conditions: the slice reads as the list xs; at most 40 texts of at most 300 bytes.
-/
import Derived.Test.YtfimjmikmbkkgaaDoorIdGood
import Derived.Test.YtfimjmikmbkkgaaDoorIdRef
import Derived.Test.YtfimjmikmbkkgaaDoorShelfJoin
namespace Go.Proofs.YtfimjmikmbkkgaaDoor.Ident
open Go.RowKit Num

/-- The identifiers with points between. -/
def joined (xs : List (List UInt8)) : List UInt8 := Lib.join xs [46]

theorem joinTail_snoc (r : List (List UInt8)) (x : List UInt8) : Lib.joinTail [46] (r ++ [x]) = Lib.joinTail [46] r ++ ([46] ++ x) := by
  simp [Lib.joinTail]
theorem joined_nil : joined [] = [] := rfl
theorem joined_one (x : List UInt8) : joined [x] = x := Lib.join_one x [46]
theorem joined_cons (x y : List UInt8) (r : List (List UInt8)) : joined (x :: y :: r) = x ++ 46 :: joined (y :: r) := by
  unfold joined
  rw [Lib.join_cons, Lib.join_cons]; simp [Lib.joinTail]
theorem joined_snoc (xs : List (List UInt8)) (x : List UInt8) (h : xs ≠ []) : joined (xs ++ [x]) = joined xs ++ [46] ++ x := by
  cases xs with
  | nil => exact absurd rfl h
  | cons a r =>
    unfold joined
    rw [List.cons_append, Lib.join_cons, Lib.join_cons, joinTail_snoc]; simp
theorem joined_le : ∀ (xs : List (List UInt8)), (∀ x ∈ xs, x.length ≤ 300) → (joined xs).length ≤ 301 * xs.length
  | [], _ => by simp [joined_nil]
  | [x], h => by rw [joined_one]; have := h x (by simp); simp; omega
  | x :: y :: r, h => by
    rw [joined_cons]
    have h1 := h x (by simp)
    have h2 := joined_le (y :: r) (fun z hz => h z (by simp [hz]))
    simp only [List.length_append, List.length_cons] at h2 ⊢
    omega

/-- Identifiers' bytes ahead are read one by one. -/
theorem go_ids {pre : Bool} (x t w : List UInt8) (acc : List (List UInt8)) (n : Nat) (h : ∀ b ∈ x, isId b = true) : go pre (x ++ t) w acc n = go pre t (w ++ x) acc (n + x.length) := by
  induction x generalizing w n with
  | nil => simp
  | cons b x ih =>
    rw [List.cons_append, go_id (h b (by simp)), ih _ _ (fun c hc => h c (by simp [hc])), List.append_assoc, List.singleton_append, List.length_cons]
    congr 1; omega
/-- A good row's text, with a byte behind that is none of a row's, is read as the row. -/
theorem go_good {pre : Bool} : ∀ (xs : List (List UInt8)) (acc : List (List UInt8)) (n : Nat), xs ≠ [] → goodFrom pre xs acc.length = true → go pre (joined xs ++ [43]) [] acc n = (0, n + (joined xs).length, acc ++ xs)
  | [], _, _, h, _ => absurd rfl h
  | [x], acc, n, _, h => by
    rw [goodFrom, Bool.and_eq_true, Bool.and_eq_true, beq_iff_eq, beq_iff_eq] at h
    rw [joined_one, go_ids x [43] [] acc n (lead_full.1 h.1.2), List.nil_append, go_else (by decide) (by decide), shut, if_pos h.1.1]
  | x :: y :: r, acc, n, _, h => by
    rw [goodFrom, Bool.and_eq_true, Bool.and_eq_true, beq_iff_eq, beq_iff_eq] at h
    have h2 : goodFrom pre (y :: r) (acc ++ [x]).length = true := by rw [List.length_append]; exact h.2
    rw [joined_cons, List.append_assoc, go_ids x _ [] acc n (lead_full.1 h.1.2), List.nil_append, List.cons_append, go_point (by decide) h.1.1, go_good (y :: r) (acc ++ [x]) _ (by simp) h2]
    simp; omega
theorem row_good {pre : Bool} {xs : List (List UInt8)} (h0 : xs ≠ []) (h : goodFrom pre xs 0 = true) : row (joined xs ++ [43]) 0 pre = (0, (joined xs).length, xs) := by
  unfold row
  rw [if_neg (by simp; omega)]
  have := go_good (pre := pre) xs [] 0 h0 h
  simpa using this

set_option maxHeartbeats 800000 in
theorem text_any (A : Option Addr) (n c : Nat) (xs : List (List UInt8)) (w : World) (hr : SRow w A n xs) (hc : n ≤ c) (hs : shortB xs = true) :
    Calls Tryd.prog 30 #[.slice A n c] w fun e w' => e = .returned (.string (mk (joined xs))) ∧ Below w.heap.size w w' := by
  have HJ : Hid (∀ W, W = w → Calls Tryd.prog 39 #[.slice A n c, .string ⟨#[46]⟩] W fun e w' => e = .returned (.string (mk (joined xs))) ∧ Below w.heap.size w w') := by
    rintro W rfl
    have hn := hr.1
    rw [shortB_iff] at hs
    have hle := joined_le xs hs.2
    rcases Nat.eq_zero_or_pos n with h0 | h0
    · subst h0
      have e : xs = [] := List.eq_nil_of_length_eq_zero hn
      subst e
      refine (Tryd.strings_Join_none A c ⟨#[46]⟩ W).mono ?_
      rintro e w' ⟨rfl, rfl⟩
      exact ⟨rfl, Below.refl _ _⟩
    · obtain ⟨b, o, rfl, hb, hcell⟩ := hr.2 h0
      have e1 : (xs.map mk).map (fun x : ByteArray => x.data.toList) = xs := by
        rw [List.map_map]; exact List.map_id xs
      have := Tryd.strings_Join b o c (xs.map mk) ⟨#[46]⟩ W (fun j x hx => by
        have hj : j < xs.length := by have := (List.getElem?_eq_some_iff.1 hx).1; rwa [List.length_map] at this
        have hx2 : x = mk (xs.getD j []) := by
          rw [List.getElem?_map, List.getElem?_eq_getElem hj] at hx
          simp at hx
          rw [← hx]; simp [List.getD, List.getElem?_eq_getElem hj]
        rw [hx2]; exact hcell j (by omega)) hb (by rw [List.length_map]; omega) (by rw [List.length_map]; omega) (by
          rw [e1]
          show (joined xs).length ≤ _
          omega)
      rw [e1, List.length_map, hn] at this
      exact this
  clear hr hs
  go_enter Tryd.func30, Tryd.ntmps30
  go_wp2_with fail
  refine (HJ.out _ rfl).mono ?_
  rintro e w1 ⟨rfl, hb1⟩
  go_wp2
  go_ret
  exact ⟨rfl, hb1⟩

theorem take_texts (xs : List (List UInt8)) (k : Nat) (h : k < xs.length) : xs.take (k + 1) = xs.take k ++ [xs.getD k []] := by
  rw [List.take_succ_eq_append_getElem h]; simp [List.getD, List.getElem?_eq_getElem h]
theorem mk_point (t : List UInt8) : mk t ++ (⟨#[46]⟩ : ByteArray) = mk (t ++ [46]) := by
  have : (mk t ++ (⟨#[46]⟩ : ByteArray)).data.toList = t ++ [46] := by
    rw [ByteArray.data_append, Array.toList_append]; rfl
  rw [← this]; rfl
theorem mk_cat (t x : List UInt8) : mk t ++ mk x = mk (t ++ x) := by
  have : (mk t ++ mk x).data.toList = t ++ x := by
    rw [ByteArray.data_append, Array.toList_append]; rfl
  rw [← this]; rfl

set_option maxHeartbeats 800000 in
theorem ref_text_any (A : Option Addr) (n c : Nat) (xs : List (List UInt8)) (w : World) (hr : SRow w A n xs) (hs : shortB xs = true) :
    Calls Tryd.prog 23 #[.slice A n c] w fun e w' => e = .returned (.string (mk (joined xs))) ∧ w = w' := by
  rw [shortB_iff] at hs
  have HR := Lib.hid hr
  have HL := Lib.hid hr.1
  have hn : n ≤ 40 := by have := hs.1; have := hr.1; omega
  have HS := Lib.hid hs.2
  clear hr hs
  go_enter Tryd.func23, Tryd.ntmps23
  go_wp2
  go_loop [3, 4] (fun t i => ∃ k : Nat, k ≤ n ∧ i = .int .i64 k ∧ t = .string (mk (joined (xs.take k)))) (fun _ i => n - (intOf i).toNat)
  case atStart => exact ⟨0, Nat.zero_le _, rfl, rfl⟩
  case round =>
    obtain ⟨k, hk, rfl, rfl⟩ := hrel
    by_cases hlt : k < n
    · obtain ⟨b, o, rfl, hb, hcell⟩ := HR.out.2 (by omega)
      have hx := hcell k hlt
      clear hcell
      have hkl : k < xs.length := by rw [HL.out]; exact hlt
      have hlx : (xs.getD k []).length ≤ 300 := HS.out _ (by simp [List.getD, List.getElem?_eq_getElem hkl])
      have hlt2 : (joined (xs.take k)).length ≤ 12040 := by
        have h1 := joined_le (xs.take k) (fun x hx => HS.out x (List.mem_of_mem_take hx))
        have h2 : (xs.take k).length ≤ 40 := by rw [List.length_take]; omega
        omega
      have HN : Hid (joined (xs.take (k + 1)) = if 0 < k then joined (xs.take k) ++ [46] ++ xs.getD k [] else xs.getD k []) := by
        unfold Hid
        rw [take_texts xs k hkl]
        by_cases h0 : 0 < k
        · rw [if_pos h0, joined_snoc]
          intro h
          have : (xs.take k).length = 0 := by rw [h]; rfl
          rw [List.length_take] at this; omega
        · have : k = 0 := by omega
          subst this
          rw [if_neg h0]; exact joined_one _
      clear hkl
      have HT0 : Hid (k = 0 → joined (xs.take k) = []) := fun h => by rw [h]; rfl
      generalize xs.getD k [] = x at hx hlx HN
      generalize joined (xs.take k) = t at hlt2 HN HT0
      have hz1 : (mk t).size ≤ 12040 := hlt2
      have hz2 : (mk x).size ≤ 300 := hlx
      by_cases h0 : 0 < k
      · have HN2 : Hid (joined (xs.take (k + 1)) = t ++ [46] ++ x) := by have := HN.out; rw [if_pos h0] at this; exact this
        have e1 := mk_point t
        have e2 := mk_cat (t ++ [46]) x
        have hz3 : (mk (t ++ [46])).size ≤ 12041 := by rw [mk_size, List.length_append]; simp; exact hlt2
        have hc1 : ¬ 9223372036854775807 < (mk t).size + 1 := by omega
        have hc2 : ¬ 9223372036854775807 < (mk (t ++ [46])).size + (mk x).size := by omega
        generalize hu : t ++ [46] = u at e1 e2 hz3 hc2 HN2
        generalize hv : u ++ x = v at e2 HN2
        clear hu hv HN HT0
        go_wp2
        exact ⟨⟨k + 1, by omega, by go_num, by rw [HN2.out]⟩, by simp [intOf]; omega⟩
      · have hk0 : k = 0 := by omega
        have HN2 : Hid (joined (xs.take (k + 1)) = t ++ x) := by
          have := HN.out; rw [if_neg h0] at this
          unfold Hid
          rw [this, HT0.out hk0]; rfl
        have e2 := mk_cat t x
        have hc2 : ¬ 9223372036854775807 < (mk t).size + (mk x).size := by omega
        generalize hv : t ++ x = v at e2 HN2
        clear hv HN HT0 hk0
        go_wp2
        exact ⟨⟨k + 1, by omega, by go_num, by rw [HN2.out]⟩, by simp [intOf]; omega⟩
    · have HF : Hid (xs.take k = xs) := List.take_of_length_le (by rw [HL.out]; omega)
      go_wp2
      go_ret
      exact ⟨by rw [HF.out]; rfl, rfl⟩

theorem lead_no {x : List UInt8} {j : Nat} (hj : j < x.length) (h : isId (x.getD j 0) = false) : lead x ≠ x.length := by
  intro e
  have := lead_full.1 e (x.getD j 0) (by simp [List.getD, List.getElem?_eq_getElem hj])
  rw [h] at this; cases this
theorem lead_yes {x : List UInt8} (h : ∀ j, j < x.length → isId (x.getD j 0) = true) : lead x = x.length :=
  lead_stop x x.length (Nat.le_refl _) h (.inl rfl)

set_option maxHeartbeats 1600000 in
theorem ref_good_any (A : Option Addr) (n c : Nat) (xs : List (List UInt8)) (pre : Bool) (w : World) (hr : SRow w A n xs) (hs : shortB xs = true) :
    Calls Tryd.prog 24 #[.slice A n c, .bool pre] w fun e w' => e = .returned (.bool (goodFrom pre xs 0)) ∧ w = w' := by
  rw [shortB_iff] at hs
  have HR := Lib.hid hr
  have HL := Lib.hid hr.1
  have hn : n ≤ 40 := by have := hs.1; have := hr.1; omega
  have HS := Lib.hid hs.2
  clear hr hs
  go_enter Tryd.func24, Tryd.ntmps24
  go_wp2
  go_loop [5] (fun i => ∃ k : Nat, k ≤ n ∧ i = .int .i64 k ∧ Hid (goodFrom pre (xs.drop k) k = goodFrom pre xs 0)) (fun i => n - (intOf i).toNat)
  case atStart => exact ⟨0, Nat.zero_le _, rfl, rfl⟩
  case round =>
    obtain ⟨k, hk, rfl, HG⟩ := hrel
    by_cases hlt : k < n
    · obtain ⟨b, o, rfl, hb, hcell⟩ := HR.out.2 (by omega)
      have hx := hcell k hlt
      clear hcell
      have HKL : Hid (k < xs.length) := by unfold Hid; rw [HL.out]; exact hlt
      have hlx : (xs.getD k []).length ≤ 300 := HS.out _ (by have h := HKL.out; simp [List.getD, List.getElem?_eq_getElem h])
      have HST := Lib.hid (fun h1 h2 => goodFrom_step (pre := pre) HKL.out h1 h2)
      have HSP := Lib.hid (fun h => goodFrom_stop (pre := pre) HKL.out h)
      generalize xs.getD k [] = s at hx hlx HST HSP
      go_wp2_with fail
      refine (wrong_any (mk s) k pre _ (by rw [mk_size]; omega) (by unfold maxLen; omega)).mono ?_
      rw [mk_list]
      rintro e w' ⟨rfl, rfl⟩
      generalize fault s k pre = f at HST HSP
      by_cases hf0 : f = 0
      · subst hf0
        have HST2 := Lib.hid (HST.out rfl)
        clear HST
        have hz : (mk s).size ≤ 300 := hlx
        go_wp2
        go_loop [6] (fun j => ∃ m : Nat, m ≤ (mk s).size ∧ j = .int .i64 m ∧ Hid (∀ j, j < m → isId (s.getD j 0) = true)) (fun j => (mk s).size - (intOf j).toNat)
        case atStart => exact ⟨0, Nat.zero_le _, rfl, fun j hj => by omega⟩
        case round =>
          obtain ⟨m, hm, rfl, HD⟩ := hrel
          by_cases hml : m < (mk s).size
          · have HX := Lib.hid (at_text (mk s) m hml)
            have hbd := byteAt_bd s m
            have HI : Hid (isId (s.getD m 0) = idB (byteAt s m)) := (idB_at _).symm
            rw [mk_list] at HX
            rw [← HX.out] at hbd HI
            obtain ⟨hx0, hx1⟩ := hbd
            go_wp2_with fail
            refine (ref_byte_any _ _ hx0 hx1).mono ?_
            rintro e w' ⟨rfl, rfl⟩
            cases h1 : idB ((mk s)[m].toNat : Int)
            · have HF : Hid (goodFrom pre xs 0 = false) := by
                unfold Hid
                rw [← HG.out]
                exact HSP.out (.inr (lead_no hml (by rw [HI.out]; exact h1)))
              have H1 := Lib.hid h1; clear h1
              go_wp2
              go_ret
              exact ⟨by rw [HF.out]; rfl, rfl⟩
            · have HN : Hid (∀ j, j < m + 1 → isId (s.getD j 0) = true) := fun j hj => by
                rcases Nat.lt_or_ge j m with hj1 | hj1
                · exact HD.out j hj1
                · obtain rfl : j = m := by omega
                  rw [HI.out]; exact h1
              have H1 := Lib.hid h1; clear h1
              go_wp2
              exact ⟨⟨m + 1, by omega, by go_num, HN.out⟩, by simp [intOf]; omega⟩
          · have HF : Hid (goodFrom pre (xs.drop (k + 1)) (k + 1) = goodFrom pre xs 0) := by
              unfold Hid
              rw [← HG.out, ← HST2.out (lead_yes (fun j hj => HD.out j (by have : (mk s).size = s.length := rfl; omega)))]
            go_wp2
            exact ⟨⟨k + 1, by omega, by go_num, HF.out⟩, by simp [intOf]; omega⟩
      · have HF : Hid (goodFrom pre xs 0 = false) := by
          unfold Hid
          rw [← HG.out]
          exact HSP.out (.inl hf0)
        go_wp2
        go_ret
        exact ⟨by rw [HF.out]; rfl, rfl⟩
    · have HF : Hid (goodFrom pre xs 0 = true) := by
        unfold Hid
        rw [← HG.out, List.drop_eq_nil_of_le (by rw [HL.out]; omega), goodFrom]
      go_wp2
      go_ret
      exact ⟨by rw [HF.out]; rfl, rfl⟩
end Go.Proofs.YtfimjmikmbkkgaaDoor.Ident
