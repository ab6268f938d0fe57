/-
  The document's own reader of versions (ferruleref03.Parse): what it answers is what the program's does. Condition: the text has at most 600 bytes.
-/
import Derived.Test.YtfimjmikmbkkgaaSvMem
import Derived.Test.YtfimjmikmbkkgaaNumRef
import Derived.Test.YtfimjmikmbkkgaaIdRefRow
namespace Go.Proofs.Ytfimjmikmbkkgaa.Semver
open Go.RowKit Num Ident

set_option maxRecDepth 100000 in
set_option maxHeartbeats 800000 in
theorem refParse_out (s : ByteArray) (p : Int) (w : World) (ho : p < 0 ∨ (s.size : Int) < p) :
    Calls Try.prog 7 #[.string s, .int .i64 p] w (GotPost w (vparse s.data.toList p)) := by
  have HE : Hid (vparse s.data.toList p = (1, 0, noVer)) := by
    unfold Hid vparse; rw [if_pos (by rw [← Lib.size_eq]; exact ho)]
  rw [HE.out]
  clear HE
  by_cases h0 : p < 0
  · go_enter Try.func7, Try.ntmps7
    go_wp2
    exact bodyPost_ret (v := .agg #[.int .u64 0, .int .u64 0, .int .u64 0, .slice none 0 0, .slice none 0 0, .int .i64 0, .int .i64 1]) (by simp [results, Try.results7, go_sem]) rfl (GotPost.bad (q := 0) (f := 1) ((Below.refl _ _).alloc (Nat.le_refl _) _))
  · have h1 : (s.size : Int) < p := by omega
    clear ho
    go_enter Try.func7, Try.ntmps7
    go_wp2
    exact bodyPost_ret (v := .agg #[.int .u64 0, .int .u64 0, .int .u64 0, .slice none 0 0, .slice none 0 0, .int .i64 0, .int .i64 1]) (by simp [results, Try.results7, go_sem]) rfl (GotPost.bad (q := 0) (f := 1) ((Below.refl _ _).alloc (Nat.le_refl _) _))

/-- How far the numbers have been read, behind i of them, at place q. -/
def LoopAt (l : List UInt8) (p q i x y z : Nat) : Prop :=
  (i = 0 ∧ core l q = core l p) ∨ (i = 1 ∧ after1 l x q = core l p) ∨ (i = 2 ∧ after2 l x y q = core l p) ∨ (i = 3 ∧ (0, q, x, y, z) = core l p)
def LoopR (w : World) (l : List UInt8) (n p : Nat) (av iv : Value) (W : World) : Prop :=
  ∃ q i x y z : Nat, q ≤ n ∧ av = .int .i64 q ∧ iv = .int .i64 i ∧ LoopAt l p q i x y z ∧ Below w.heap.size w W ∧ At7 W w.heap.size (.int .u64 0) (.int .u64 0) (.int .u64 0) (.slice none 0 0) (.slice none 0 0) (.int .i64 0) (.int .i64 0) ∧ At3 W (w.heap.size + 1) (.int .u64 (x : Int)) (.int .u64 (y : Int)) (.int .u64 (z : Int))

set_option maxRecDepth 100000 in
set_option maxHeartbeats 6400000 in
theorem refParse_in (s : ByteArray) (p : Nat) (w : World) (hs : s.size ≤ 600) (hp : p ≤ s.size) :
    Calls Try.prog 7 #[.string s, .int .i64 p] w (GotPost w (vparse s.data.toList p)) := by
  have HL := Lib.hid (Lib.size_eq s)
  have HE : Hid (vparse s.data.toList p = inside s.data.toList p) := by
    unfold Hid vparse; rw [if_neg (by rw [← Lib.size_eq]; omega), Int.toNat_natCast]
  rw [HE.out]
  clear HE
  have hp0 : ¬ (p : Int) < 0 := by omega
  have hp1 : ¬ s.size < p := by omega
  go_enter Try.func7, Try.ntmps7
  go_wp2_with fail
  go_loopw [1, 6] (fun av iv W => LoopR w s.data.toList s.size p av iv W) (fun _ iv _ => 3 - (intOf iv).toNat)
  case atStart =>
    refine ⟨p, 0, 0, 0, 0, hp, rfl, rfl, .inl ⟨rfl, rfl⟩, ?_, ?_, ?_⟩
    · exact ((Below.refl _ _).alloc (Nat.le_refl _) _).alloc (by simp) _
    · exact (At7.new w _ _ _ _ _ _ _ _).kept ((Below.refl _ _).alloc (Nat.le_refl _) _) (by simp)
    · have := At3.new (w.alloc (.cells #[.int .u64 0, .int .u64 0, .int .u64 0, .slice none 0 0, .slice none 0 0, .int .i64 0, .int .i64 0] 32)) 39 (.int .u64 0) (.int .u64 0) (.int .u64 0)
      rw [size_alloc] at this; exact this
  case round =>
    obtain ⟨q, i, x, y, z, hq, rfl, rfl, hat, hbel, h7, h3⟩ := hrel
    have HBL := Lib.hid hbel
    have H7 := Lib.hid h7
    have H3 := Lib.hid h3
    have hz : w.heap.size + 2 ≤ wr.heap.size := by have := h3.1; omega
    clear hbel h7 h3
    rcases hat with ⟨rfl, hat⟩ | ⟨rfl, hat⟩ | ⟨rfl, hat⟩ | ⟨rfl, hat⟩
    · have HAT := Lib.hid hat; clear hat
      obtain ⟨⟨v, m, f⟩, hk⟩ : ∃ t, parse s.data.toList ((q : Nat) : Int) = t := ⟨_, rfl⟩
      have HP : Hid (refOut s.data.toList ((q : Nat) : Int) = .agg #[.int .u64 (v : Int), .int .i64 (m : Int), .int .i64 (f : Int)]) := by unfold Hid refOut; rw [hk]
      have HC : Hid (core s.data.toList q = if f ≠ 0 then (f, q, 0, 0, 0) else after1 s.data.toList v (q + m)) := by unfold Hid core; rw [hk]
      have HQ := Lib.hid (parse_end s.data.toList (q) (by rw [← HL.out]; omega))
      rw [hk] at HQ
      have hqm : q + m ≤ s.size := by have := HQ.out; rw [← HL.out] at this; exact this
      clear hk HQ
      go_wp2_with fail
      refine (ref_parse_in s (q) _ hs (by omega)).mono ?_
      rw [HP.out]
      rintro e w1 ⟨rfl, hb1⟩
      have H7' := Lib.hid (H7.out.kept hb1 (by omega))
      have H3' := Lib.hid (H3.out.kept hb1 (by omega))
      have HB1 := Lib.hid (HBL.out.trans (hb1.mono (by omega)))
      have hz1 := hb1.size
      clear hb1
      obtain ⟨hl7, hf7, g0, g1, g2, g3, g4, g5, g6⟩ := H7'.out
      obtain ⟨hl3, hf3, k0, k1, k2⟩ := H3'.out
      by_cases h0 : f = 0
      · subst h0
        have HC2 : Hid (after1 s.data.toList v (q + m) = core s.data.toList p) := (HC.out.trans (if_neg (by simp))).symm.trans HAT.out
        go_wp2
        refine ⟨⟨q + m, 1, v, y, z, hqm, by go_num, rfl, .inr (.inl ⟨rfl, HC2.out⟩), ?_, ?_, ?_⟩, by simp [intOf]⟩
        · exact (HB1.out.setCell (by simp) _).alloc (by simp; omega) _
        · exact (H7'.out.beside (by omega) _).kept ((Below.refl _ _).alloc (Nat.le_refl _) _) (by simp; omega)
        · exact (Semver.At3.set0 H3'.out _).kept ((Below.refl _ _).alloc (Nat.le_refl _) _) (by simp; omega)
      · have HI2 : Hid (inside s.data.toList p = (f, q, noVer)) := by
          have e := (HC.out.trans (if_pos h0)).symm.trans HAT.out
          unfold Hid inside; rw [← e, if_pos h0]
        have hb1 : ((f : Int) != 0) = true := by simp [h0]
        have hb2 : ((f : Int) == 0) = false := by simp [h0]
        clear h0 HC
        go_wp2
        exact bodyPost_ret (v := .agg #[.int .u64 0, .int .u64 0, .int .u64 0, .slice none 0 0, .slice none 0 0, .int .i64 (q : Int), .int .i64 (f : Int)]) (by simp [results, Try.results7, go_sem, g0, g1, g2, g3, g4, g5, g6, hl7]) rfl (by rw [HI2.out]; exact GotPost.bad (q := q) (f := f) ((((((((HB1.out.setCell (by simp) _).setCell (by simp) _).setCell (by simp) _).setCell (by simp) _).setCell (by simp) _).setCell (by simp) _).setCell (by simp) _).alloc (by simp; omega) _))
    · have HAT := Lib.hid hat; clear hat
      have HPT : Hid (after1 s.data.toList x q = if point s.data.toList q ≠ 0 then (point s.data.toList q, q, 0, 0, 0) else core1 s.data.toList x (q + 1)) := rfl
      obtain ⟨hl7, hf7, g0, g1, g2, g3, g4, g5, g6⟩ := H7.out
      by_cases he : q = s.size
      · have HPE := Lib.hid (point_end (l := s.data.toList) (q := q) (by rw [← HL.out]; exact he))
        have HI2 : Hid (inside s.data.toList p = (2, q, noVer)) := by
          have e := HPT.out.symm.trans HAT.out
          rw [HPE.out] at e; unfold Hid inside; rw [← e]; rfl
        have hb : ((q : Int) == (s.size : Int)) = true := by simp [he]
        clear he
        go_wp2
        exact bodyPost_ret (v := .agg #[.int .u64 0, .int .u64 0, .int .u64 0, .slice none 0 0, .slice none 0 0, .int .i64 (q : Int), .int .i64 (2 : Int)]) (by simp [results, Try.results7, go_sem, g0, g1, g2, g3, g4, g5, g6]) rfl (by rw [HI2.out]; exact GotPost.bad (q := q) (f := 2) (((((((HBL.out.setCell (by simp) _).setCell (by simp) _).setCell (by simp) _).setCell (by simp) _).setCell (by simp) _).setCell (by simp) _).setCell (by simp) _))
      have hlt : q < s.size := by omega
      have hb : ((q : Int) == (s.size : Int)) = false := by simp; omega
      have HNE : Hid (q ≠ s.data.toList.length) := by unfold Hid; rw [← HL.out]; exact he
      have HX := Lib.hid (at_text s q hlt)
      clear he
      by_cases h46 : (s[q].toNat : Int) = 46
      · have HPE := Lib.hid (point_yes (l := s.data.toList) (q := q) HNE.out (by rw [← HX.out]; exact h46))
        have HAT2 : Hid (core1 s.data.toList x (q + 1) = core s.data.toList p) := by
          have e := HPT.out.symm.trans HAT.out
          rw [HPE.out] at e; exact e
        have hb46 : ((s[q].toNat : Int) != 46) = false := by simp [h46]
        clear h46 HPT HAT HPE hl7 hf7 g0 g1 g2 g3 g4 g5 g6
        obtain ⟨⟨v, m, f⟩, hk⟩ : ∃ t, parse s.data.toList ((q + 1 : Nat) : Int) = t := ⟨_, rfl⟩
        have HP : Hid (refOut s.data.toList ((q + 1 : Nat) : Int) = .agg #[.int .u64 (v : Int), .int .i64 (m : Int), .int .i64 (f : Int)]) := by unfold Hid refOut; rw [hk]
        have HC : Hid (core1 s.data.toList x (q + 1) = if f ≠ 0 then (f, q + 1, 0, 0, 0) else after2 s.data.toList x v (q + 1 + m)) := by unfold Hid core1; rw [hk]
        have HQ := Lib.hid (parse_end s.data.toList (q + 1) (by rw [← HL.out]; omega))
        rw [hk] at HQ
        have hqm : q + 1 + m ≤ s.size := by have := HQ.out; rw [← HL.out] at this; exact this
        clear hk HQ
        go_wp2_with fail
        refine (ref_parse_in s (q + 1) _ hs (by omega)).mono ?_
        rw [HP.out]
        rintro e w1 ⟨rfl, hb1⟩
        have H7' := Lib.hid (H7.out.kept hb1 (by omega))
        have H3' := Lib.hid (H3.out.kept hb1 (by omega))
        have HB1 := Lib.hid (HBL.out.trans (hb1.mono (by omega)))
        have hz1 := hb1.size
        clear hb1
        obtain ⟨hl7, hf7, g0, g1, g2, g3, g4, g5, g6⟩ := H7'.out
        obtain ⟨hl3, hf3, k0, k1, k2⟩ := H3'.out
        by_cases h0 : f = 0
        · subst h0
          have HC2 : Hid (after2 s.data.toList x v (q + 1 + m) = core s.data.toList p) := (HC.out.trans (if_neg (by simp))).symm.trans HAT2.out
          go_wp2
          refine ⟨⟨q + 1 + m, 2, x, v, z, hqm, by go_num, rfl, .inr (.inr (.inl ⟨rfl, HC2.out⟩)), ?_, ?_, ?_⟩, by simp [intOf]⟩
          · exact (HB1.out.setCell (by simp) _).alloc (by simp; omega) _
          · exact (H7'.out.beside (by omega) _).kept ((Below.refl _ _).alloc (Nat.le_refl _) _) (by simp; omega)
          · exact (Semver.At3.set1 H3'.out _).kept ((Below.refl _ _).alloc (Nat.le_refl _) _) (by simp; omega)
        · have HI2 : Hid (inside s.data.toList p = (f, q + 1, noVer)) := by
            have e := (HC.out.trans (if_pos h0)).symm.trans HAT2.out
            unfold Hid inside; rw [← e, if_pos h0]
          have hb1 : ((f : Int) != 0) = true := by simp [h0]
          have hb2 : ((f : Int) == 0) = false := by simp [h0]
          clear h0 HC
          go_wp2
          exact bodyPost_ret (v := .agg #[.int .u64 0, .int .u64 0, .int .u64 0, .slice none 0 0, .slice none 0 0, .int .i64 (((q + 1 : Nat)) : Int), .int .i64 (f : Int)]) (by simp [results, Try.results7, go_sem, g0, g1, g2, g3, g4, g5, g6, hl7]) rfl (by rw [HI2.out]; exact GotPost.bad (q := q + 1) (f := f) ((((((((HB1.out.setCell (by simp) _).setCell (by simp) _).setCell (by simp) _).setCell (by simp) _).setCell (by simp) _).setCell (by simp) _).setCell (by simp) _).alloc (by simp; omega) _))
      · have HPE := Lib.hid (point_no (l := s.data.toList) (q := q) HNE.out (by rw [← HX.out]; exact h46))
        have HI2 : Hid (inside s.data.toList p = (3, q, noVer)) := by
          have e := HPT.out.symm.trans HAT.out
          rw [HPE.out] at e; unfold Hid inside; rw [← e]; rfl
        have hb46 : ((s[q].toNat : Int) != 46) = true := by simp [h46]
        clear h46
        go_wp2
        exact bodyPost_ret (v := .agg #[.int .u64 0, .int .u64 0, .int .u64 0, .slice none 0 0, .slice none 0 0, .int .i64 (q : Int), .int .i64 (3 : Int)]) (by simp [results, Try.results7, go_sem, g0, g1, g2, g3, g4, g5, g6]) rfl (by rw [HI2.out]; exact GotPost.bad (q := q) (f := 3) (((((((HBL.out.setCell (by simp) _).setCell (by simp) _).setCell (by simp) _).setCell (by simp) _).setCell (by simp) _).setCell (by simp) _).setCell (by simp) _))
    · have HAT := Lib.hid hat; clear hat
      have HPT : Hid (after2 s.data.toList x y q = if point s.data.toList q ≠ 0 then (point s.data.toList q, q, 0, 0, 0) else core2 s.data.toList x y (q + 1)) := rfl
      obtain ⟨hl7, hf7, g0, g1, g2, g3, g4, g5, g6⟩ := H7.out
      by_cases he : q = s.size
      · have HPE := Lib.hid (point_end (l := s.data.toList) (q := q) (by rw [← HL.out]; exact he))
        have HI2 : Hid (inside s.data.toList p = (2, q, noVer)) := by
          have e := HPT.out.symm.trans HAT.out
          rw [HPE.out] at e; unfold Hid inside; rw [← e]; rfl
        have hb : ((q : Int) == (s.size : Int)) = true := by simp [he]
        clear he
        go_wp2
        exact bodyPost_ret (v := .agg #[.int .u64 0, .int .u64 0, .int .u64 0, .slice none 0 0, .slice none 0 0, .int .i64 (q : Int), .int .i64 (2 : Int)]) (by simp [results, Try.results7, go_sem, g0, g1, g2, g3, g4, g5, g6]) rfl (by rw [HI2.out]; exact GotPost.bad (q := q) (f := 2) (((((((HBL.out.setCell (by simp) _).setCell (by simp) _).setCell (by simp) _).setCell (by simp) _).setCell (by simp) _).setCell (by simp) _).setCell (by simp) _))
      have hlt : q < s.size := by omega
      have hb : ((q : Int) == (s.size : Int)) = false := by simp; omega
      have HNE : Hid (q ≠ s.data.toList.length) := by unfold Hid; rw [← HL.out]; exact he
      have HX := Lib.hid (at_text s q hlt)
      clear he
      by_cases h46 : (s[q].toNat : Int) = 46
      · have HPE := Lib.hid (point_yes (l := s.data.toList) (q := q) HNE.out (by rw [← HX.out]; exact h46))
        have HAT2 : Hid (core2 s.data.toList x y (q + 1) = core s.data.toList p) := by
          have e := HPT.out.symm.trans HAT.out
          rw [HPE.out] at e; exact e
        have hb46 : ((s[q].toNat : Int) != 46) = false := by simp [h46]
        clear h46 HPT HAT HPE hl7 hf7 g0 g1 g2 g3 g4 g5 g6
        obtain ⟨⟨v, m, f⟩, hk⟩ : ∃ t, parse s.data.toList ((q + 1 : Nat) : Int) = t := ⟨_, rfl⟩
        have HP : Hid (refOut s.data.toList ((q + 1 : Nat) : Int) = .agg #[.int .u64 (v : Int), .int .i64 (m : Int), .int .i64 (f : Int)]) := by unfold Hid refOut; rw [hk]
        have HC : Hid (core2 s.data.toList x y (q + 1) = if f ≠ 0 then (f, q + 1, 0, 0, 0) else (0, q + 1 + m, x, y, v)) := by unfold Hid core2; rw [hk]
        have HQ := Lib.hid (parse_end s.data.toList (q + 1) (by rw [← HL.out]; omega))
        rw [hk] at HQ
        have hqm : q + 1 + m ≤ s.size := by have := HQ.out; rw [← HL.out] at this; exact this
        clear hk HQ
        go_wp2_with fail
        refine (ref_parse_in s (q + 1) _ hs (by omega)).mono ?_
        rw [HP.out]
        rintro e w1 ⟨rfl, hb1⟩
        have H7' := Lib.hid (H7.out.kept hb1 (by omega))
        have H3' := Lib.hid (H3.out.kept hb1 (by omega))
        have HB1 := Lib.hid (HBL.out.trans (hb1.mono (by omega)))
        have hz1 := hb1.size
        clear hb1
        obtain ⟨hl7, hf7, g0, g1, g2, g3, g4, g5, g6⟩ := H7'.out
        obtain ⟨hl3, hf3, k0, k1, k2⟩ := H3'.out
        by_cases h0 : f = 0
        · subst h0
          have HC2 : Hid ((0, q + 1 + m, x, y, v) = core s.data.toList p) := (HC.out.trans (if_neg (by simp))).symm.trans HAT2.out
          go_wp2
          refine ⟨⟨q + 1 + m, 3, x, y, v, hqm, by go_num, rfl, .inr (.inr (.inr ⟨rfl, HC2.out⟩)), ?_, ?_, ?_⟩, by simp [intOf]⟩
          · exact (HB1.out.setCell (by simp) _).alloc (by simp; omega) _
          · exact (H7'.out.beside (by omega) _).kept ((Below.refl _ _).alloc (Nat.le_refl _) _) (by simp; omega)
          · exact (Semver.At3.set2 H3'.out _).kept ((Below.refl _ _).alloc (Nat.le_refl _) _) (by simp; omega)
        · have HI2 : Hid (inside s.data.toList p = (f, q + 1, noVer)) := by
            have e := (HC.out.trans (if_pos h0)).symm.trans HAT2.out
            unfold Hid inside; rw [← e, if_pos h0]
          have hb1 : ((f : Int) != 0) = true := by simp [h0]
          have hb2 : ((f : Int) == 0) = false := by simp [h0]
          clear h0 HC
          go_wp2
          exact bodyPost_ret (v := .agg #[.int .u64 0, .int .u64 0, .int .u64 0, .slice none 0 0, .slice none 0 0, .int .i64 (((q + 1 : Nat)) : Int), .int .i64 (f : Int)]) (by simp [results, Try.results7, go_sem, g0, g1, g2, g3, g4, g5, g6, hl7]) rfl (by rw [HI2.out]; exact GotPost.bad (q := q + 1) (f := f) ((((((((HB1.out.setCell (by simp) _).setCell (by simp) _).setCell (by simp) _).setCell (by simp) _).setCell (by simp) _).setCell (by simp) _).setCell (by simp) _).alloc (by simp; omega) _))
      · have HPE := Lib.hid (point_no (l := s.data.toList) (q := q) HNE.out (by rw [← HX.out]; exact h46))
        have HI2 : Hid (inside s.data.toList p = (3, q, noVer)) := by
          have e := HPT.out.symm.trans HAT.out
          rw [HPE.out] at e; unfold Hid inside; rw [← e]; rfl
        have hb46 : ((s[q].toNat : Int) != 46) = true := by simp [h46]
        clear h46
        go_wp2
        exact bodyPost_ret (v := .agg #[.int .u64 0, .int .u64 0, .int .u64 0, .slice none 0 0, .slice none 0 0, .int .i64 (q : Int), .int .i64 (3 : Int)]) (by simp [results, Try.results7, go_sem, g0, g1, g2, g3, g4, g5, g6]) rfl (by rw [HI2.out]; exact GotPost.bad (q := q) (f := 3) (((((((HBL.out.setCell (by simp) _).setCell (by simp) _).setCell (by simp) _).setCell (by simp) _).setCell (by simp) _).setCell (by simp) _).setCell (by simp) _))
    · have HIN : Hid (inside s.data.toList p = tail1 s.data.toList x y z q) := by unfold Hid inside; rw [← hat]; rfl
      have HBA := Lib.hid ((Below.refl wr.heap.size wr).alloc (Nat.le_refl _) (.cells #[.int .u64 (x : Int), .int .u64 (y : Int), .int .u64 (z : Int), .slice none 0 0, .slice none 0 0] 27))
      have H7a := Lib.hid (H7.out.kept HBA.out (by omega))
      have H5a := Lib.hid (At5.new wr 27 (.int .u64 (x : Int)) (.int .u64 (y : Int)) (.int .u64 (z : Int)) (.slice none 0 0) (.slice none 0 0))
      have HBa := Lib.hid (HBL.out.trans (HBA.out.mono (by omega)))
      obtain ⟨hl3, hf3, k0, k1, k2⟩ := H3.out
      go_upto_region 19 with (fail)
      clear hl3 hf3 k0 k1 k2 H3 H7 HBL HBA hat
      generalize wr.alloc (.cells #[.int .u64 (x : Int), .int .u64 (y : Int), .int .u64 (z : Int), .slice none 0 0, .slice none 0 0] 27) = W at H7a H5a HBa ⊢
      generalize wr.heap.size = b8 at hz H5a ⊢
      have hb8 := H5a.out.1
      have H7 := H7a
      have H5 := H5a
      have HBL := HBa
      clear H7a H5a HBa
      have HT : Hid (tail1 s.data.toList x y z q = if (rowAt s.data.toList q 45).1 ≠ 0 then ((rowAt s.data.toList q 45).1, (rowAt s.data.toList q 45).2.1, noVer) else tail2 s.data.toList x y z (rowAt s.data.toList q 45).2.2 (rowAt s.data.toList q 45).2.1) := rfl
      have HNO : Hid (q = s.size ∨ (∀ h : q < s.size, (s[q].toNat : Int) ≠ 45) → inside s.data.toList p = tail2 s.data.toList x y z [] q) := fun hh => by
        have e := rowAt_none (l := s.data.toList) (p := q) (m := 45) (by
          rcases hh with h | h
          · exact .inl (by rw [← HL.out]; exact h)
          · by_cases h1 : q < s.size
            · exact .inr (by rw [← at_text s q h1]; exact h h1)
            · exact .inl (by rw [← HL.out]; omega))
        have e2 := HT.out
        rw [e, if_neg (by simp)] at e2
        exact HIN.out.trans e2
      by_cases hlt : q < s.size
      · by_cases hmk : (s[q].toNat : Int) = 45
        · have HNE : Hid (q ≠ s.data.toList.length) := by unfold Hid; rw [← HL.out]; omega
          have HY := Lib.hid (rowAt_some (l := s.data.toList) (p := q) (m := 45) HNE.out (by rw [← at_text s q hlt]; exact hmk))
          have hb : ((s[q].toNat : Int) == 45) = true := by simp [hmk]
          clear hmk HNO
          rw [show ((45 : Nat) == 45) = true from rfl] at HY
          have HRR := Lib.hid (fun W => ref_row_any s ((q + 1 : Nat) : Int) true W hs)
          have HRE := Lib.hid (row_end s.data.toList (q + 1) true (by rw [← HL.out]; omega))
          have HRL := Lib.hid (row_len s.data.toList ((q + 1 : Nat) : Int) true)
          obtain ⟨⟨f, N, xs⟩, hr⟩ : ∃ t, row s.data.toList ((q + 1 : Nat) : Int) true = t := ⟨_, rfl⟩
          have HBD := Lib.hid (row_bad s.data.toList ((q + 1 : Nat) : Int) true)
          rw [hr] at HRR HRE HRL HY HBD
          clear hr
          have hqN : q + 1 + N ≤ s.size := by have := HRE.out; rw [← HL.out] at this; exact this
          go_wp2_with fail
          refine (HRR.out _).mono ?_
          rintro e w2 ⟨AP, cP, rfl, hcP, hr2, hb2⟩
          simp only at hcP hr2 ⊢
          have hz2 := hb2.size
          have H7' := Lib.hid (H7.out.kept hb2 (by omega))
          have H5' := Lib.hid (H5.out.kept hb2 hb8)
          have HB2 := Lib.hid (HBL.out.trans (hb2.mono (by omega)))
          have HR2 := Lib.hid hr2
          clear hr2 hb2
          obtain ⟨hl7, hf7, g0, g1, g2, g3, g4, g5, g6⟩ := H7'.out
          obtain ⟨hl5, hf5, j0, j1, j2, j3, j4⟩ := H5'.out
          by_cases h0 : f = 0
          · subst h0
            have HIN2 : Hid (inside s.data.toList p = tail2 s.data.toList x y z xs (q + 1 + N)) := by
              have e2 := HT.out
              rw [HY.out, if_neg (by simp)] at e2
              exact HIN.out.trans e2
            clear HIN HT HY HRR
            have HR3 : Hid (SRow (w2.setCell ⟨b8, 3, none⟩ (.slice AP xs.length cP)) AP xs.length xs) := HR2.out.set j3 (by simp) _
            have H53 := Lib.hid (Semver.At5.set3 H5'.out (.slice AP xs.length cP))
            have H73 : Hid (At7 (w2.setCell ⟨b8, 3, none⟩ (.slice AP xs.length cP)) w.heap.size (.int .u64 0) (.int .u64 0) (.int .u64 0) (.slice none 0 0) (.slice none 0 0) (.int .i64 0) (.int .i64 0)) := H7'.out.beside (by omega) _
            have HB3 : Hid (Below w.heap.size w (w2.setCell ⟨b8, 3, none⟩ (.slice AP xs.length cP))) := HB2.out.setCell (by simp; omega) _
            go_upto_region 25 with (fail)
            clear H7 H5 HBL H7' H5' HR2 HB2 hl7 hf7 g0 g1 g2 g3 g4 g5 g6 hl5 hf5 j0 j1 j2 j3 j4
            have hz3 : b8 < (w2.setCell ⟨b8, 3, none⟩ (.slice AP xs.length cP)).heap.size := H53.out.1
            have HBA := Lib.hid ((Below.refl (w2.setCell ⟨b8, 3, none⟩ (.slice AP xs.length cP)).heap.size (w2.setCell ⟨b8, 3, none⟩ (.slice AP xs.length cP))).alloc (Nat.le_refl _) (.cells #[.slice AP xs.length cP, .int .i64 (N : Int), .int .i64 0] 49))
            have RA := Lib.hid (HR3.out.kept HBA.out)
            have H5 := Lib.hid (H53.out.kept HBA.out hz3)
            have H7 := Lib.hid (H73.out.kept HBA.out (by omega))
            have HBL := Lib.hid (HB3.out.trans (HBA.out.mono (by omega)))
            have HIN := HIN2
            clear HIN2 HBA hz3 hz2 hb8 HR3 H53 H73 HB3
            generalize (w2.setCell ⟨b8, 3, none⟩ (.slice AP xs.length cP)).alloc (.cells #[.slice AP xs.length cP, .int .i64 (N : Int), .int .i64 0] 49) = W5 at H5 H7 HBL RA ⊢
            have hb8 := H5.out.1
            rw [show ((q : Int) + 1 + (N : Int)) = ((q + 1 + N : Nat) : Int) from rfl]
            have hq2 := hqN
            clear hqN HRE hq hb
            generalize hqq : q + 1 + N = q' at hq2 HIN ⊢
            clear hqq
            have hq := hq2
            clear hq2
            skip
            have HT : Hid (tail2 s.data.toList x y z xs q' = if (rowAt s.data.toList q' 43).1 ≠ 0 then ((rowAt s.data.toList q' 43).1, (rowAt s.data.toList q' 43).2.1, noVer) else (0, (rowAt s.data.toList q' 43).2.1, ⟨x, y, z, xs, (rowAt s.data.toList q' 43).2.2⟩)) := rfl
            have HNO : Hid (q' = s.size ∨ (∀ h : q' < s.size, (s[q'].toNat : Int) ≠ 43) → inside s.data.toList p = (0, q', ⟨x, y, z, xs, []⟩)) := fun hh => by
              have e := rowAt_none (l := s.data.toList) (p := q') (m := 43) (by
                rcases hh with h | h
                · exact .inl (by rw [← HL.out]; exact h)
                · by_cases h1 : q' < s.size
                  · exact .inr (by rw [← at_text s q' h1]; exact h h1)
                  · exact .inl (by rw [← HL.out]; omega))
              have e2 := HT.out
              rw [e, if_neg (by simp)] at e2
              exact HIN.out.trans e2
            by_cases hlt : q' < s.size
            · by_cases hmk : (s[q'].toNat : Int) = 43
              · have HNE : Hid (q' ≠ s.data.toList.length) := by unfold Hid; rw [← HL.out]; omega
                have HY := Lib.hid (rowAt_some (l := s.data.toList) (p := q') (m := 43) HNE.out (by rw [← at_text s q' hlt]; exact hmk))
                have hb : ((s[q'].toNat : Int) == 43) = true := by simp [hmk]
                clear hmk HNO
                rw [show ((43 : Nat) == 45) = false from rfl] at HY
                have HRR := Lib.hid (fun W => ref_row_any s ((q' + 1 : Nat) : Int) false W hs)
                have HRE := Lib.hid (row_end s.data.toList (q' + 1) false (by rw [← HL.out]; omega))
                have HRL := Lib.hid (row_len s.data.toList ((q' + 1 : Nat) : Int) false)
                obtain ⟨⟨f, N, ys⟩, hr⟩ : ∃ t, row s.data.toList ((q' + 1 : Nat) : Int) false = t := ⟨_, rfl⟩
                have HBD := Lib.hid (row_bad s.data.toList ((q' + 1 : Nat) : Int) false)
                rw [hr] at HRR HRE HRL HY HBD
                clear hr
                have hqN : q' + 1 + N ≤ s.size := by have := HRE.out; rw [← HL.out] at this; exact this
                go_wp2_with fail
                refine (HRR.out _).mono ?_
                rintro e w2 ⟨A2, c2, rfl, hc2, hr2, hb2⟩
                simp only at hc2 hr2 ⊢
                have hz2 := hb2.size
                have H7' := Lib.hid (H7.out.kept hb2 (by omega))
                have H5' := Lib.hid (H5.out.kept hb2 hb8)
                have HB2 := Lib.hid (HBL.out.trans (hb2.mono (by omega)))
                have RA' := Lib.hid (RA.out.kept hb2)
                have HR2 := Lib.hid hr2
                clear hr2 hb2
                obtain ⟨hl7, hf7, g0, g1, g2, g3, g4, g5, g6⟩ := H7'.out
                obtain ⟨hl5, hf5, j0, j1, j2, j3, j4⟩ := H5'.out
                by_cases h0 : f = 0
                · subst h0
                  have HIN2 : Hid (inside s.data.toList p = (0, q' + 1 + N, ⟨x, y, z, xs, ys⟩)) := by
                    have e2 := HT.out
                    rw [HY.out, if_neg (by simp)] at e2
                    exact HIN.out.trans e2
                  clear HIN HT HY HRR
                  have HR3 : Hid (SRow (w2.setCell ⟨b8, 4, none⟩ (.slice A2 ys.length c2)) A2 ys.length ys) := HR2.out.set j4 (by simp) _
                  have RA3 : Hid (SRow (w2.setCell ⟨b8, 4, none⟩ (.slice A2 ys.length c2)) AP xs.length xs) := RA'.out.set j4 (by simp) _
                  have H53 := Lib.hid (Semver.At5.set4 H5'.out (.slice A2 ys.length c2))
                  have H73 : Hid (At7 (w2.setCell ⟨b8, 4, none⟩ (.slice A2 ys.length c2)) w.heap.size (.int .u64 0) (.int .u64 0) (.int .u64 0) (.slice none 0 0) (.slice none 0 0) (.int .i64 0) (.int .i64 0)) := H7'.out.beside (by omega) _
                  have HB3 : Hid (Below w.heap.size w (w2.setCell ⟨b8, 4, none⟩ (.slice A2 ys.length c2))) := HB2.out.setCell (by simp; omega) _
                  go_upto_region 31 with (fail)
                  clear H7 H5 HBL H7' H5' HR2 HB2 hl7 hf7 g0 g1 g2 g3 g4 g5 g6 hl5 hf5 j0 j1 j2 j3 j4 RA RA'
                  have hz3 : b8 < (w2.setCell ⟨b8, 4, none⟩ (.slice A2 ys.length c2)).heap.size := H53.out.1
                  have HBA := Lib.hid ((Below.refl (w2.setCell ⟨b8, 4, none⟩ (.slice A2 ys.length c2)).heap.size (w2.setCell ⟨b8, 4, none⟩ (.slice A2 ys.length c2))).alloc (Nat.le_refl _) (.cells #[.slice A2 ys.length c2, .int .i64 (N : Int), .int .i64 0] 49))
                  have RB := Lib.hid (HR3.out.kept HBA.out)
                  have RA := Lib.hid (RA3.out.kept HBA.out)
                  have H5 := Lib.hid (H53.out.kept HBA.out hz3)
                  have H7 := Lib.hid (H73.out.kept HBA.out (by omega))
                  have HBL := Lib.hid (HB3.out.trans (HBA.out.mono (by omega)))
                  have HIN := HIN2
                  clear HIN2 HBA hz3 hz2 hb8 HR3 H53 H73 HB3 RA3
                  generalize (w2.setCell ⟨b8, 4, none⟩ (.slice A2 ys.length c2)).alloc (.cells #[.slice A2 ys.length c2, .int .i64 (N : Int), .int .i64 0] 49) = W5 at H5 H7 HBL RA RB ⊢
                  have hb8 := H5.out.1
                  rw [show ((q' : Int) + 1 + (N : Int)) = ((q' + 1 + N : Nat) : Int) from rfl]
                  have hq2 := hqN
                  clear hqN HRE hq hb
                  generalize hqq : q' + 1 + N = qe at hq2 HIN ⊢
                  clear hqq
                  have hq := hq2
                  clear hq2
                  skip
                  obtain ⟨hl7, hf7, g0, g1, g2, g3, g4, g5, g6⟩ := H7.out
                  obtain ⟨hl5, hf5, j0, j1, j2, j3, j4⟩ := H5.out
                  have RA7 := Lib.hid (Semver.set7 RA.out H7.out (by simp) (by simp) (by simp) (by simp) (by simp) (by simp) (by simp) (.int .u64 (x : Int)) (.int .u64 (y : Int)) (.int .u64 (z : Int)) (.slice AP xs.length cP) (.slice A2 ys.length c2) (.int .i64 (qe : Int)) (.int .i64 0))
                  have RB7 := Lib.hid (Semver.set7 RB.out H7.out (by simp) (by simp) (by simp) (by simp) (by simp) (by simp) (by simp) (.int .u64 (x : Int)) (.int .u64 (y : Int)) (.int .u64 (z : Int)) (.slice AP xs.length cP) (.slice A2 ys.length c2) (.int .i64 (qe : Int)) (.int .i64 0))
                  go_wp2
                  exact bodyPost_ret (v := .agg #[.int .u64 (x : Int), .int .u64 (y : Int), .int .u64 (z : Int), .slice AP xs.length cP, .slice A2 ys.length c2, .int .i64 (qe : Int), .int .i64 0]) (by simp [results, Try.results7, go_sem, g0, g1, g2, g3, g4, g5, g6]) rfl (by rw [HIN.out]; exact ⟨AP, cP, A2, c2, rfl, hcP, hc2, RA7.out, RB7.out, (((((((HBL.out.setCell (by simp) _).setCell (by simp) _).setCell (by simp) _).setCell (by simp) _).setCell (by simp) _).setCell (by simp) _).setCell (by simp) _)⟩)
                · have HIN2 : Hid (inside s.data.toList p = (f, q' + 1, noVer)) := by
                    have e2 := HT.out
                    have e3 := HBD.out h0
                    injection e3 with e4 e5
                    rw [HY.out, if_pos h0] at e2
                    rw [e4] at e2
                    exact HIN.out.trans e2
                  have hb1 : ((f : Int) != 0) = true := by simp [h0]
                  have hb2 : ((f : Int) == 0) = false := by simp [h0]
                  clear h0 HIN HT HY HRR HBD
                  go_wp2
                  exact bodyPost_ret (v := .agg #[.int .u64 0, .int .u64 0, .int .u64 0, .slice none 0 0, .slice none 0 0, .int .i64 (((q' + 1 : Nat)) : Int), .int .i64 (f : Int)]) (by simp [results, Try.results7, go_sem, g0, g1, g2, g3, g4, g5, g6, hl7]) rfl (by rw [HIN2.out]; exact GotPost.bad (q := q' + 1) (f := f) ((((((((HB2.out.setCell (by simp) _).setCell (by simp) _).setCell (by simp) _).setCell (by simp) _).setCell (by simp) _).setCell (by simp) _).setCell (by simp) _).alloc (by simp; omega) _))
              · have HIN2 := Lib.hid (HNO.out (.inr fun _ => hmk))
                have hb : ((s[q'].toNat : Int) == 43) = false := by simp [hmk]
                clear hmk HNO HT HIN
                go_upto_region 31 with (fail)
                have HIN := HIN2
                clear HIN2
                obtain ⟨hl7, hf7, g0, g1, g2, g3, g4, g5, g6⟩ := H7.out
                obtain ⟨hl5, hf5, j0, j1, j2, j3, j4⟩ := H5.out
                have RA7 := Lib.hid (Semver.set7 RA.out H7.out (by simp) (by simp) (by simp) (by simp) (by simp) (by simp) (by simp) (.int .u64 (x : Int)) (.int .u64 (y : Int)) (.int .u64 (z : Int)) (.slice AP xs.length cP) (.slice none 0 0) (.int .i64 (q' : Int)) (.int .i64 0))
                go_wp2
                exact bodyPost_ret (v := .agg #[.int .u64 (x : Int), .int .u64 (y : Int), .int .u64 (z : Int), .slice AP xs.length cP, .slice none 0 0, .int .i64 (q' : Int), .int .i64 0]) (by simp [results, Try.results7, go_sem, g0, g1, g2, g3, g4, g5, g6]) rfl (by rw [HIN.out]; exact ⟨AP, cP, none, 0, rfl, hcP, Nat.le_refl _, RA7.out, SRow.none_ _ _, (((((((HBL.out.setCell (by simp) _).setCell (by simp) _).setCell (by simp) _).setCell (by simp) _).setCell (by simp) _).setCell (by simp) _).setCell (by simp) _)⟩)
            · have HIN2 := Lib.hid (HNO.out (.inl (by omega)))
              have hb : decide ((q' : Int) < (s.size : Int)) = false := by simpa using hlt
              clear HNO HT HIN
              go_upto_region 31 with (fail)
              have HIN := HIN2
              clear HIN2
              obtain ⟨hl7, hf7, g0, g1, g2, g3, g4, g5, g6⟩ := H7.out
              obtain ⟨hl5, hf5, j0, j1, j2, j3, j4⟩ := H5.out
              have RA7 := Lib.hid (Semver.set7 RA.out H7.out (by simp) (by simp) (by simp) (by simp) (by simp) (by simp) (by simp) (.int .u64 (x : Int)) (.int .u64 (y : Int)) (.int .u64 (z : Int)) (.slice AP xs.length cP) (.slice none 0 0) (.int .i64 (q' : Int)) (.int .i64 0))
              go_wp2
              exact bodyPost_ret (v := .agg #[.int .u64 (x : Int), .int .u64 (y : Int), .int .u64 (z : Int), .slice AP xs.length cP, .slice none 0 0, .int .i64 (q' : Int), .int .i64 0]) (by simp [results, Try.results7, go_sem, g0, g1, g2, g3, g4, g5, g6]) rfl (by rw [HIN.out]; exact ⟨AP, cP, none, 0, rfl, hcP, Nat.le_refl _, RA7.out, SRow.none_ _ _, (((((((HBL.out.setCell (by simp) _).setCell (by simp) _).setCell (by simp) _).setCell (by simp) _).setCell (by simp) _).setCell (by simp) _).setCell (by simp) _)⟩)
          · have HIN2 : Hid (inside s.data.toList p = (f, q + 1, noVer)) := by
              have e2 := HT.out
              have e3 := HBD.out h0
              injection e3 with e4 e5
              rw [HY.out, if_pos h0] at e2
              rw [e4] at e2
              exact HIN.out.trans e2
            have hb1 : ((f : Int) != 0) = true := by simp [h0]
            have hb2 : ((f : Int) == 0) = false := by simp [h0]
            clear h0 HIN HT HY HRR HBD
            go_wp2
            exact bodyPost_ret (v := .agg #[.int .u64 0, .int .u64 0, .int .u64 0, .slice none 0 0, .slice none 0 0, .int .i64 (((q + 1 : Nat)) : Int), .int .i64 (f : Int)]) (by simp [results, Try.results7, go_sem, g0, g1, g2, g3, g4, g5, g6, hl7]) rfl (by rw [HIN2.out]; exact GotPost.bad (q := q + 1) (f := f) ((((((((HB2.out.setCell (by simp) _).setCell (by simp) _).setCell (by simp) _).setCell (by simp) _).setCell (by simp) _).setCell (by simp) _).setCell (by simp) _).alloc (by simp; omega) _))
        · have HIN2 := Lib.hid (HNO.out (.inr fun _ => hmk))
          have hb : ((s[q].toNat : Int) == 45) = false := by simp [hmk]
          clear hmk HNO HT HIN
          go_upto_region 25 with (fail)
          have RA : Hid (SRow W none 0 []) := SRow.none_ _ _
          have HIN := HIN2
          clear HIN2
          have HT : Hid (tail2 s.data.toList x y z [] q = if (rowAt s.data.toList q 43).1 ≠ 0 then ((rowAt s.data.toList q 43).1, (rowAt s.data.toList q 43).2.1, noVer) else (0, (rowAt s.data.toList q 43).2.1, ⟨x, y, z, [], (rowAt s.data.toList q 43).2.2⟩)) := rfl
          have HNO : Hid (q = s.size ∨ (∀ h : q < s.size, (s[q].toNat : Int) ≠ 43) → inside s.data.toList p = (0, q, ⟨x, y, z, [], []⟩)) := fun hh => by
            have e := rowAt_none (l := s.data.toList) (p := q) (m := 43) (by
              rcases hh with h | h
              · exact .inl (by rw [← HL.out]; exact h)
              · by_cases h1 : q < s.size
                · exact .inr (by rw [← at_text s q h1]; exact h h1)
                · exact .inl (by rw [← HL.out]; omega))
            have e2 := HT.out
            rw [e, if_neg (by simp)] at e2
            exact HIN.out.trans e2
          by_cases hlt : q < s.size
          · by_cases hmk : (s[q].toNat : Int) = 43
            · have HNE : Hid (q ≠ s.data.toList.length) := by unfold Hid; rw [← HL.out]; omega
              have HY := Lib.hid (rowAt_some (l := s.data.toList) (p := q) (m := 43) HNE.out (by rw [← at_text s q hlt]; exact hmk))
              have hb : ((s[q].toNat : Int) == 43) = true := by simp [hmk]
              clear hmk HNO
              rw [show ((43 : Nat) == 45) = false from rfl] at HY
              have HRR := Lib.hid (fun W => ref_row_any s ((q + 1 : Nat) : Int) false W hs)
              have HRE := Lib.hid (row_end s.data.toList (q + 1) false (by rw [← HL.out]; omega))
              have HRL := Lib.hid (row_len s.data.toList ((q + 1 : Nat) : Int) false)
              obtain ⟨⟨f, N, ys⟩, hr⟩ : ∃ t, row s.data.toList ((q + 1 : Nat) : Int) false = t := ⟨_, rfl⟩
              have HBD := Lib.hid (row_bad s.data.toList ((q + 1 : Nat) : Int) false)
              rw [hr] at HRR HRE HRL HY HBD
              clear hr
              have hqN : q + 1 + N ≤ s.size := by have := HRE.out; rw [← HL.out] at this; exact this
              go_wp2_with fail
              refine (HRR.out _).mono ?_
              rintro e w2 ⟨A2, c2, rfl, hc2, hr2, hb2⟩
              simp only at hc2 hr2 ⊢
              have hz2 := hb2.size
              have H7' := Lib.hid (H7.out.kept hb2 (by omega))
              have H5' := Lib.hid (H5.out.kept hb2 hb8)
              have HB2 := Lib.hid (HBL.out.trans (hb2.mono (by omega)))
              have RA' := Lib.hid (RA.out.kept hb2)
              have HR2 := Lib.hid hr2
              clear hr2 hb2
              obtain ⟨hl7, hf7, g0, g1, g2, g3, g4, g5, g6⟩ := H7'.out
              obtain ⟨hl5, hf5, j0, j1, j2, j3, j4⟩ := H5'.out
              by_cases h0 : f = 0
              · subst h0
                have HIN2 : Hid (inside s.data.toList p = (0, q + 1 + N, ⟨x, y, z, [], ys⟩)) := by
                  have e2 := HT.out
                  rw [HY.out, if_neg (by simp)] at e2
                  exact HIN.out.trans e2
                clear HIN HT HY HRR
                have HR3 : Hid (SRow (w2.setCell ⟨b8, 4, none⟩ (.slice A2 ys.length c2)) A2 ys.length ys) := HR2.out.set j4 (by simp) _
                have RA3 : Hid (SRow (w2.setCell ⟨b8, 4, none⟩ (.slice A2 ys.length c2)) none 0 []) := RA'.out.set j4 (by simp) _
                have H53 := Lib.hid (Semver.At5.set4 H5'.out (.slice A2 ys.length c2))
                have H73 : Hid (At7 (w2.setCell ⟨b8, 4, none⟩ (.slice A2 ys.length c2)) w.heap.size (.int .u64 0) (.int .u64 0) (.int .u64 0) (.slice none 0 0) (.slice none 0 0) (.int .i64 0) (.int .i64 0)) := H7'.out.beside (by omega) _
                have HB3 : Hid (Below w.heap.size w (w2.setCell ⟨b8, 4, none⟩ (.slice A2 ys.length c2))) := HB2.out.setCell (by simp; omega) _
                go_upto_region 31 with (fail)
                clear H7 H5 HBL H7' H5' HR2 HB2 hl7 hf7 g0 g1 g2 g3 g4 g5 g6 hl5 hf5 j0 j1 j2 j3 j4 RA RA'
                have hz3 : b8 < (w2.setCell ⟨b8, 4, none⟩ (.slice A2 ys.length c2)).heap.size := H53.out.1
                have HBA := Lib.hid ((Below.refl (w2.setCell ⟨b8, 4, none⟩ (.slice A2 ys.length c2)).heap.size (w2.setCell ⟨b8, 4, none⟩ (.slice A2 ys.length c2))).alloc (Nat.le_refl _) (.cells #[.slice A2 ys.length c2, .int .i64 (N : Int), .int .i64 0] 49))
                have RB := Lib.hid (HR3.out.kept HBA.out)
                have RA := Lib.hid (RA3.out.kept HBA.out)
                have H5 := Lib.hid (H53.out.kept HBA.out hz3)
                have H7 := Lib.hid (H73.out.kept HBA.out (by omega))
                have HBL := Lib.hid (HB3.out.trans (HBA.out.mono (by omega)))
                have HIN := HIN2
                clear HIN2 HBA hz3 hz2 hb8 HR3 H53 H73 HB3 RA3
                generalize (w2.setCell ⟨b8, 4, none⟩ (.slice A2 ys.length c2)).alloc (.cells #[.slice A2 ys.length c2, .int .i64 (N : Int), .int .i64 0] 49) = W5 at H5 H7 HBL RA RB ⊢
                have hb8 := H5.out.1
                rw [show ((q : Int) + 1 + (N : Int)) = ((q + 1 + N : Nat) : Int) from rfl]
                have hq2 := hqN
                clear hqN HRE hq hb
                generalize hqq : q + 1 + N = qe at hq2 HIN ⊢
                clear hqq
                have hq := hq2
                clear hq2
                skip
                obtain ⟨hl7, hf7, g0, g1, g2, g3, g4, g5, g6⟩ := H7.out
                obtain ⟨hl5, hf5, j0, j1, j2, j3, j4⟩ := H5.out
                have RB7 := Lib.hid (Semver.set7 RB.out H7.out (by simp) (by simp) (by simp) (by simp) (by simp) (by simp) (by simp) (.int .u64 (x : Int)) (.int .u64 (y : Int)) (.int .u64 (z : Int)) (.slice none 0 0) (.slice A2 ys.length c2) (.int .i64 (qe : Int)) (.int .i64 0))
                go_wp2
                exact bodyPost_ret (v := .agg #[.int .u64 (x : Int), .int .u64 (y : Int), .int .u64 (z : Int), .slice none 0 0, .slice A2 ys.length c2, .int .i64 (qe : Int), .int .i64 0]) (by simp [results, Try.results7, go_sem, g0, g1, g2, g3, g4, g5, g6]) rfl (by rw [HIN.out]; exact ⟨none, 0, A2, c2, rfl, Nat.le_refl _, hc2, SRow.none_ _ _, RB7.out, (((((((HBL.out.setCell (by simp) _).setCell (by simp) _).setCell (by simp) _).setCell (by simp) _).setCell (by simp) _).setCell (by simp) _).setCell (by simp) _)⟩)
              · have HIN2 : Hid (inside s.data.toList p = (f, q + 1, noVer)) := by
                  have e2 := HT.out
                  have e3 := HBD.out h0
                  injection e3 with e4 e5
                  rw [HY.out, if_pos h0] at e2
                  rw [e4] at e2
                  exact HIN.out.trans e2
                have hb1 : ((f : Int) != 0) = true := by simp [h0]
                have hb2 : ((f : Int) == 0) = false := by simp [h0]
                clear h0 HIN HT HY HRR HBD
                go_wp2
                exact bodyPost_ret (v := .agg #[.int .u64 0, .int .u64 0, .int .u64 0, .slice none 0 0, .slice none 0 0, .int .i64 (((q + 1 : Nat)) : Int), .int .i64 (f : Int)]) (by simp [results, Try.results7, go_sem, g0, g1, g2, g3, g4, g5, g6, hl7]) rfl (by rw [HIN2.out]; exact GotPost.bad (q := q + 1) (f := f) ((((((((HB2.out.setCell (by simp) _).setCell (by simp) _).setCell (by simp) _).setCell (by simp) _).setCell (by simp) _).setCell (by simp) _).setCell (by simp) _).alloc (by simp; omega) _))
            · have HIN2 := Lib.hid (HNO.out (.inr fun _ => hmk))
              have hb : ((s[q].toNat : Int) == 43) = false := by simp [hmk]
              clear hmk HNO HT HIN
              go_upto_region 31 with (fail)
              have HIN := HIN2
              clear HIN2
              obtain ⟨hl7, hf7, g0, g1, g2, g3, g4, g5, g6⟩ := H7.out
              obtain ⟨hl5, hf5, j0, j1, j2, j3, j4⟩ := H5.out
              go_wp2
              exact bodyPost_ret (v := .agg #[.int .u64 (x : Int), .int .u64 (y : Int), .int .u64 (z : Int), .slice none 0 0, .slice none 0 0, .int .i64 (q : Int), .int .i64 0]) (by simp [results, Try.results7, go_sem, g0, g1, g2, g3, g4, g5, g6]) rfl (by rw [HIN.out]; exact ⟨none, 0, none, 0, rfl, Nat.le_refl _, Nat.le_refl _, SRow.none_ _ _, SRow.none_ _ _, (((((((HBL.out.setCell (by simp) _).setCell (by simp) _).setCell (by simp) _).setCell (by simp) _).setCell (by simp) _).setCell (by simp) _).setCell (by simp) _)⟩)
          · have HIN2 := Lib.hid (HNO.out (.inl (by omega)))
            have hb : decide ((q : Int) < (s.size : Int)) = false := by simpa using hlt
            clear HNO HT HIN
            exfalso
            omega
      · have HIN2 := Lib.hid (HNO.out (.inl (by omega)))
        have hb : decide ((q : Int) < (s.size : Int)) = false := by simpa using hlt
        clear HNO HT HIN
        have HIN3 : Hid (inside s.data.toList p = (0, q, ⟨x, y, z, [], []⟩)) := by
          have e := rowAt_none (l := s.data.toList) (p := q) (m := 43) (.inl (by rw [← HL.out]; omega))
          have e2 := HIN2.out
          unfold tail2 at e2
          rw [e, if_neg (by simp)] at e2
          exact e2
        have HIN := HIN3
        clear HIN2 HIN3
        obtain ⟨hl7, hf7, g0, g1, g2, g3, g4, g5, g6⟩ := H7.out
        obtain ⟨hl5, hf5, j0, j1, j2, j3, j4⟩ := H5.out
        go_wp2
        exact bodyPost_ret (v := .agg #[.int .u64 (x : Int), .int .u64 (y : Int), .int .u64 (z : Int), .slice none 0 0, .slice none 0 0, .int .i64 (q : Int), .int .i64 0]) (by simp [results, Try.results7, go_sem, g0, g1, g2, g3, g4, g5, g6]) rfl (by rw [HIN.out]; exact ⟨none, 0, none, 0, rfl, Nat.le_refl _, Nat.le_refl _, SRow.none_ _ _, SRow.none_ _ _, (((((((HBL.out.setCell (by simp) _).setCell (by simp) _).setCell (by simp) _).setCell (by simp) _).setCell (by simp) _).setCell (by simp) _).setCell (by simp) _)⟩)
end Go.Proofs.Ytfimjmikmbkkgaa.Semver
