/-
  Versions and their texts, as plain lists: what is read is right, and its text is what was read; a right version's text is read as it. No condition.
-/
import Derived.Test.YtolkcblkciafiaaDoorSvText
import Derived.Test.YtolkcblkciafiaaDoorSvGood
import Derived.Test.YtolkcblkciafiaaDoorNumWalks
namespace Go.Proofs.YtolkcblkciafiaaDoor.Semver
open Num Ident

/-- Two numerals of one number are one. -/
theorem num_inj {x y : List UInt8} (hx : isNum x = true) (hy : isNum y = true) (h : val x = val y) : x = y := by
  rcases Nat.lt_trichotomy x.length y.length with hl | hl | hl
  · have := shorter hx hy hl; omega
  · have h1 := (isNum_iff x).1 hx
    have h2 := (isNum_iff y).1 hy
    exact val_inj x y (all_of_run h1.2.1) (all_of_run h2.2.1) hl h
  · have := shorter hy hx hl; omega

/-! What is read. -/
theorem parse_read {l : List UInt8} {p v m : Nat} (hp : p ≤ l.length) (h : parse l p = (v, m, 0)) : l.drop p = Lib.decDigits v ++ l.drop (p + m) ∧ v ≤ maxField := by
  obtain ⟨d, hd⟩ : ∃ d, (l.drop p).take (run (l.drop p)) = d := ⟨_, rfl⟩
  have e := parse_at l p hp d hd
  rw [h] at e
  have ha : AllDig d := by rw [← hd]; exact allDig_take_run _
  by_cases h0 : d.length = 0
  · rw [if_pos h0] at e; simp at e
  · rw [if_neg h0] at e
    by_cases h1 : pad d = true
    · rw [if_pos h1] at e; simp at e
    · rw [if_neg h1] at e
      by_cases h2 : maxField < val d
      · rw [if_pos h2] at e; simp at e
      · rw [if_neg h2] at e
        injection e with e1 e2
        injection e2 with e2 _
        have hn : isNum d = true := by
          rw [isNum_iff]
          exact ⟨by omega, run_all ha, by simpa using h1⟩
        have hdec : d = Lib.decDigits v := num_inj hn (dec_num v) (by rw [dec_val, e1])
        have hm : m = run (l.drop p) := by
          rw [e2, ← hd, List.length_take]
          have := run_le (l.drop p); omega
        refine ⟨?_, by omega⟩
        rw [← hdec, ← hd, ← hm, ← List.drop_drop, List.take_append_drop]
theorem point_read {l : List UInt8} {q : Nat} (hq : q ≤ l.length) (h : point l q = 0) : l.drop q = 46 :: l.drop (q + 1) := by
  have hlt := point_lt hq h
  rw [drop_getD l q hlt]
  unfold point at h
  rw [if_neg (by omega)] at h
  by_cases h2 : byteAt l q ≠ 46
  · rw [if_pos h2] at h; omega
  · have h3 : byteAt l q = 46 := by simpa using h2
    have : l.getD q 0 = 46 := UInt8.toNat_inj.1 (show (l.getD q 0).toNat = 46 by unfold byteAt at h3; omega)
    rw [this]
theorem core2_read {l : List UInt8} {p x y z q a b : Nat} (hp : p ≤ l.length) (h : core2 l x y p = (0, q, a, b, z)) : a = x ∧ b = y ∧ l.drop p = Lib.decDigits z ++ l.drop q ∧ z ≤ maxField := by
  unfold core2 at h
  obtain ⟨⟨v, m, f⟩, hk⟩ : ∃ t, parse l p = t := ⟨_, rfl⟩
  rw [hk] at h
  by_cases h0 : f ≠ 0
  · rw [if_pos h0] at h; injection h with h; exact absurd h h0
  · have hf : f = 0 := by simpa using h0
    subst hf
    rw [if_neg (by simp)] at h
    simp only [Prod.mk.injEq, true_and] at h
    obtain ⟨rfl, rfl, rfl, rfl⟩ := h
    exact ⟨rfl, rfl, parse_read hp hk⟩
theorem core1_read {l : List UInt8} {p x y z q a : Nat} (hp : p ≤ l.length) (h : core1 l x p = (0, q, a, y, z)) : a = x ∧ l.drop p = Lib.decDigits y ++ 46 :: (Lib.decDigits z ++ l.drop q) ∧ y ≤ maxField ∧ z ≤ maxField := by
  unfold core1 at h
  obtain ⟨⟨v, m, f⟩, hk⟩ : ∃ t, parse l p = t := ⟨_, rfl⟩
  have hpe := parse_end l p hp
  rw [hk] at h hpe
  by_cases h0 : f ≠ 0
  · rw [if_pos h0] at h; injection h with h; exact absurd h h0
  · have hf : f = 0 := by simpa using h0
    subst hf
    rw [if_neg (by simp)] at h
    simp only at h hpe
    unfold after2 at h
    by_cases h1 : point l (p + m) ≠ 0
    · rw [if_pos h1] at h; injection h with h; exact absurd h h1
    · rw [if_neg h1] at h
      have h1' : point l (p + m) = 0 := by simpa using h1
      obtain ⟨rfl, rfl, e1, e2⟩ := core2_read (point_lt hpe h1') h
      obtain ⟨e3, e4⟩ := parse_read hp hk
      exact ⟨rfl, by rw [e3, point_read hpe h1', e1], e4, e2⟩
theorem core_read {l : List UInt8} {p x y z q : Nat} (hp : p ≤ l.length) (h : core l p = (0, q, x, y, z)) :
    l.drop p = Lib.decDigits x ++ 46 :: (Lib.decDigits y ++ 46 :: (Lib.decDigits z ++ l.drop q)) ∧ x ≤ maxField ∧ y ≤ maxField ∧ z ≤ maxField := by
  unfold core at h
  obtain ⟨⟨v, m, f⟩, hk⟩ : ∃ t, parse l p = t := ⟨_, rfl⟩
  have hpe := parse_end l p hp
  rw [hk] at h hpe
  by_cases h0 : f ≠ 0
  · rw [if_pos h0] at h; injection h with h; exact absurd h h0
  · have hf : f = 0 := by simpa using h0
    subst hf
    rw [if_neg (by simp)] at h
    simp only at h hpe
    unfold after1 at h
    by_cases h1 : point l (p + m) ≠ 0
    · rw [if_pos h1] at h; injection h with h; exact absurd h h1
    · rw [if_neg h1] at h
      have h1' : point l (p + m) = 0 := by simpa using h1
      obtain ⟨rfl, e1, e2, e5⟩ := core1_read (point_lt hpe h1') h
      obtain ⟨e3, e4⟩ := parse_read hp hk
      exact ⟨by rw [e3, point_read hpe h1', e1], e4, e2, e5⟩

theorem joined_byte (acc : List (List UInt8)) (w : List UInt8) (b : UInt8) : joined (acc ++ [w ++ [b]]) = joined (acc ++ [w]) ++ [b] := by
  cases acc with
  | nil => rw [List.nil_append, List.nil_append, joined_one, joined_one]
  | cons x r => rw [joined_snoc _ _ (by simp), joined_snoc _ _ (by simp), List.append_assoc, List.append_assoc, List.append_assoc]
theorem joined_point (acc : List (List UInt8)) (w : List UInt8) : joined (acc ++ [w] ++ [[]]) = joined (acc ++ [w]) ++ [46] := by
  rw [joined_snoc _ _ (by simp), List.append_nil]
theorem goodFrom_snoc (pre : Bool) (acc : List (List UInt8)) (w : List UInt8) (i : Nat) : goodFrom pre (acc ++ [w]) i = (goodFrom pre acc i && (fault w (i + acc.length) pre == 0 && lead w == w.length)) := by
  induction acc generalizing i with
  | nil => simp [goodFrom]
  | cons x r ih =>
    rw [List.cons_append, goodFrom, goodFrom, ih, List.length_cons, show i + 1 + r.length = i + (r.length + 1) by omega]
    simp only [Bool.and_assoc]
/-- A row that is read. -/
theorem go_read {pre : Bool} : ∀ (r w : List UInt8) (acc : List (List UInt8)) (n N : Nat) (xs : List (List UInt8)), (∀ b ∈ w, isId b = true) → goodFrom pre acc 0 = true → go pre r w acc n = (0, N, xs) →
    ∃ k, N = n + k ∧ k ≤ r.length ∧ joined (acc ++ [w]) ++ r.take k = joined xs ∧ xs ≠ [] ∧ goodFrom pre xs 0 = true := by
  have hshut : ∀ (r w : List UInt8) (acc : List (List UInt8)) (n N : Nat) (xs : List (List UInt8)), (∀ b ∈ w, isId b = true) → goodFrom pre acc 0 = true → shut pre w acc n = (0, N, xs) →
      ∃ k, N = n + k ∧ k ≤ r.length ∧ joined (acc ++ [w]) ++ r.take k = joined xs ∧ xs ≠ [] ∧ goodFrom pre xs 0 = true := by
    intro r w acc n N xs hw hg h
    unfold shut at h
    split at h
    · rename_i hf
      simp only [Prod.mk.injEq, true_and] at h
      obtain ⟨rfl, rfl⟩ := h
      refine ⟨0, by omega, Nat.zero_le _, by simp, by simp, ?_⟩
      rw [goodFrom_snoc, hg, Nat.zero_add, hf, lead_full.2 hw]; simp
    · rename_i hf
      injection h with h
      exact absurd h hf
  intro r
  induction r with
  | nil => intro w acc n N xs hw hg h; rw [go] at h; exact hshut [] w acc n N xs hw hg h
  | cons b r ih =>
    intro w acc n N xs hw hg h
    by_cases hb : isId b = true
    · rw [go_id hb] at h
      obtain ⟨k, e1, e2, e3, e4⟩ := ih (w ++ [b]) acc (n + 1) N xs (fun c hc => by rcases List.mem_append.1 hc with hc | hc; (· exact hw c hc); (· simp at hc; rw [hc]; exact hb)) hg h
      refine ⟨k + 1, by omega, by simp; exact e2, ?_, e4⟩
      rw [joined_byte, List.append_assoc] at e3
      rw [List.take_succ_cons]; exact e3
    · have hb' : isId b = false := by simpa using hb
      by_cases h46 : b.toNat = 46
      · by_cases hf : fault w acc.length pre = 0
        · rw [go_point h46 hf] at h
          obtain ⟨k, e1, e2, e3, e4⟩ := ih [] (acc ++ [w]) (n + 1) N xs (by simp) (by rw [goodFrom_snoc, hg, Nat.zero_add, hf, lead_full.2 hw]; simp) h
          refine ⟨k + 1, by omega, by simp; exact e2, ?_, e4⟩
          have eb : b = 46 := UInt8.toNat_inj.1 h46
          rw [joined_point, List.append_assoc] at e3
          rw [List.take_succ_cons, eb]; exact e3
        · rw [go_bad hb' hf] at h
          injection h with h
          exact absurd h hf
      · rw [go_else hb' h46] at h
        exact hshut (b :: r) w acc n N xs hw hg h
theorem row_read {l : List UInt8} {p N : Nat} {pre : Bool} {xs : List (List UInt8)} (hp : p ≤ l.length) (h : row l p pre = (0, N, xs)) : l.drop p = joined xs ++ l.drop (p + N) ∧ xs ≠ [] ∧ goodFrom pre xs 0 = true := by
  unfold row at h
  rw [if_neg (by omega), Int.toNat_natCast] at h
  obtain ⟨k, e1, e2, e3, e4, e5⟩ := go_read (l.drop p) [] [] 0 N xs (by simp) rfl h
  rw [List.nil_append, joined_one, List.nil_append] at e3
  refine ⟨?_, e4, e5⟩
  rw [← e3, show N = k by omega, ← List.drop_drop, List.take_append_drop]
theorem rowAt_read {l : List UInt8} {p m q : Nat} {mb : UInt8} {xs : List (List UInt8)} (hm : m = mb.toNat) (hp : p ≤ l.length) (h : rowAt l p m = (0, q, xs)) : l.drop p = rowText mb xs ++ l.drop q ∧ goodFrom (m == 45) xs 0 = true := by
  by_cases h0 : p = l.length ∨ byteAt l p ≠ (m : Int)
  · rw [rowAt_none h0] at h
    simp only [Prod.mk.injEq, true_and] at h
    obtain ⟨rfl, rfl⟩ := h
    exact ⟨by rw [rowText_none rfl]; rfl, rfl⟩
  · have h1 : p ≠ l.length := fun e => h0 (.inl e)
    have h2 : byteAt l p = (m : Int) := by
      by_cases e : byteAt l p = (m : Int)
      · exact e
      · exact absurd (.inr e) h0
    rw [rowAt_some h1 h2] at h
    have hlt : p < l.length := by omega
    obtain ⟨⟨f, N, ys⟩, hr⟩ : ∃ t, row l ((p + 1 : Nat) : Int) (m == 45) = t := ⟨_, rfl⟩
    rw [hr] at h
    simp only [Prod.mk.injEq] at h
    obtain ⟨rfl, rfl, rfl⟩ := h
    obtain ⟨e1, e2, e3⟩ := row_read hlt hr
    refine ⟨?_, e3⟩
    have hb : l.getD p 0 = mb := UInt8.toNat_inj.1 (by unfold byteAt at h2; omega)
    rw [drop_getD l p hlt, hb, e1, rowText_some (fun e => e2 (List.eq_nil_of_length_eq_zero e))]; rfl
theorem goodFrom_bound {pre : Bool} : ∀ (xs : List (List UInt8)) (i : Nat), goodFrom pre xs i = true → (xs ≠ [] → xs.length + i ≤ 16) ∧ ∀ x ∈ xs, x.length ≤ 255
  | [], _, _ => ⟨fun h => absurd rfl h, by simp⟩
  | x :: r, i, h => by
    rw [goodFrom, Bool.and_eq_true, Bool.and_eq_true, beq_iff_eq, beq_iff_eq] at h
    have hf := fault_pos h.1.1
    have ih := goodFrom_bound r (i + 1) h.2
    refine ⟨fun _ => ?_, fun y hy => ?_⟩
    · by_cases hr : r = []
      · subst hr; simp; omega
      · have := ih.1 hr
        rw [List.length_cons]; omega
    · rcases List.mem_cons.1 hy with rfl | hy
      · exact hf.2.1
      · exact ih.2 y hy
theorem good_short {pre : Bool} {xs : List (List UInt8)} (h : goodFrom pre xs 0 = true) : shortB xs = true := by
  have hb := goodFrom_bound xs 0 h
  rw [shortB_iff]
  refine ⟨?_, fun x hx => Nat.le_trans (hb.2 x hx) (by omega)⟩
  by_cases hx : xs = []
  · subst hx; simp
  · have := hb.1 hx; omega

/-- What is read is right, and its text is what was read. -/
theorem read_back {l : List UInt8} {q : Nat} {v : Ver} (h : vread l = (0, q, v)) : goodV v = true ∧ vtext v = l := by
  unfold vread at h
  by_cases h0 : (vparse l 0).1 ≠ 0
  · rw [if_pos h0] at h; injection h with h; exact absurd h h0
  · rw [if_neg h0] at h
    by_cases h1 : (vparse l 0).2.1 ≠ l.length
    · rw [if_pos h1] at h; injection h with h; exact absurd h (by decide)
    · rw [if_neg h1] at h
      have hq : (vparse l 0).2.1 = l.length := by simpa using h1
      have hf : (vparse l 0).1 = 0 := by simpa using h0
      injection h with _ h
      injection h with _ hv
      clear h0 h1
      unfold vparse at hq hf hv
      rw [if_neg (by omega), Int.toNat_zero] at hq hf hv
      unfold inside at hq hf hv
      by_cases h2 : (core l 0).1 ≠ 0
      · rw [if_pos h2] at hf; exact absurd hf h2
      · rw [if_neg h2] at hq hf hv
        have hce := core_end l 0 (Nat.zero_le _)
        obtain ⟨⟨f, q1, x, y, z⟩, hk⟩ : ∃ t, core l 0 = t := ⟨_, rfl⟩
        rw [hk] at h2 hq hf hv hce
        simp only at h2 hq hf hv hce
        have h2' : f = 0 := by simpa using h2
        subst h2'
        obtain ⟨c1, c2, c3, c4⟩ := core_read (Nat.zero_le _) hk
        unfold tail1 at hq hf hv
        by_cases h3 : (rowAt l q1 45).1 ≠ 0
        · rw [if_pos h3] at hf; exact absurd hf h3
        · rw [if_neg h3] at hq hf hv
          have hre := rowAt_end l q1 45 hce
          obtain ⟨⟨f, q2, xs⟩, hr⟩ : ∃ t, rowAt l q1 45 = t := ⟨_, rfl⟩
          rw [hr] at h3 hq hf hv hre
          simp only at h3 hq hf hv hre
          have h3' : f = 0 := by simpa using h3
          subst h3'
          obtain ⟨r1, r2⟩ := rowAt_read (mb := 45) rfl hce hr
          unfold tail2 at hq hf hv
          by_cases h4 : (rowAt l q2 43).1 ≠ 0
          · rw [if_pos h4] at hf; exact absurd hf h4
          · rw [if_neg h4] at hq hf hv
            obtain ⟨⟨f, q3, ys⟩, hr3⟩ : ∃ t, rowAt l q2 43 = t := ⟨_, rfl⟩
            rw [hr3] at h4 hq hf hv
            simp only at h4 hq hf hv
            have h4' : f = 0 := by simpa using h4
            subst h4'
            obtain ⟨s1, s2⟩ := rowAt_read (mb := 43) rfl hre hr3
            subst hv
            refine ⟨?_, ?_⟩
            · unfold goodV
              rw [heldB_yes c2 c3 c4]
              have r2' : goodFrom true xs 0 = true := r2
              have s2' : goodFrom false ys 0 = true := s2
              simp [r2', s2']
            · have e : l = Lib.decDigits x ++ 46 :: (Lib.decDigits y ++ 46 :: (Lib.decDigits z ++ (rowText 45 xs ++ (rowText 43 ys ++ l.drop q3)))) := by
                rw [← s1, ← r1, ← c1]; rfl
              rw [hq, List.drop_length, List.append_nil] at e
              unfold vtext
              rw [e]; simp
end Go.Proofs.YtolkcblkciafiaaDoor.Semver
