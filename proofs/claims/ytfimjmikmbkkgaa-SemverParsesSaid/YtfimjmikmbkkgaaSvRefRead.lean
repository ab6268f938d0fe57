/-
  The document's own reader of a whole text (ferruleref03.Read): what it answers is what the program's does. Condition: the text has at most 600 bytes.
-/
import Derived.Test.YtfimjmikmbkkgaaSvRef
namespace Go.Proofs.Ytfimjmikmbkkgaa.Semver
open Go.RowKit Num Ident

theorem refParse_any (s : ByteArray) (p : Int) (w : World) (hs : s.size ≤ 600) :
    Calls Try.prog 7 #[.string s, .int .i64 p] w (GotPost w (vparse s.data.toList p)) := by
  by_cases ho : p < 0 ∨ (s.size : Int) < p
  · exact refParse_out s p w ho
  · obtain ⟨k, rfl⟩ := Int.eq_ofNat_of_zero_le (show 0 ≤ p by omega)
    exact refParse_in s k w hs (by omega)

set_option maxRecDepth 100000 in
set_option maxHeartbeats 1600000 in
theorem refRead_any (s : ByteArray) (w : World) (hs : s.size ≤ 600) :
    Calls Try.prog 9 #[.string s] w (GotPost w (vread s.data.toList)) := by
  have HL := Lib.hid (Lib.size_eq s)
  have HP := Lib.hid (fun W => refParse_any s 0 W hs)
  generalize s.data.toList = l at HL HP
  have HQ := Lib.hid (vparse_end l 0)
  have HBD := Lib.hid (fun h => vparse_bad (l := l) (p := 0) h)
  have HI : Hid (vread l = if (vparse l 0).1 ≠ 0 then ((vparse l 0).1, (vparse l 0).2.1, noVer) else if (vparse l 0).2.1 ≠ l.length then (13, (vparse l 0).2.1, noVer) else (0, 0, (vparse l 0).2.2)) := rfl
  have HB0 : Hid (Below w.heap.size w (w.alloc (.cells #[.int .u64 0, .int .u64 0, .int .u64 0, .slice none 0 0, .slice none 0 0, .int .i64 0, .int .i64 0] 32))) := (Below.refl _ _).alloc (Nat.le_refl _) _
  obtain ⟨⟨f, q, ⟨x, y, z, xs, ys⟩⟩, hk⟩ : ∃ t, vparse l 0 = t := ⟨_, rfl⟩
  rw [hk] at HP HI HQ HBD
  clear hk
  have hq : q ≤ s.size := by have := HQ.out; rw [← HL.out] at this; exact this
  go_enter Try.func9, Try.ntmps9
  go_wp2_with fail
  refine (HP.out _).mono ?_
  rintro e w1 ⟨A2, c2, A3, c3, rfl, hc2, hc3, hr2, hr3, hb1⟩
  simp only at hc2 hc3 hr2 hr3 ⊢
  have hz1 : w.heap.size + 1 ≤ w1.heap.size := by have := hb1.size; simpa using this
  have H7 : Hid (At7 w1 w.heap.size (.int .u64 0) (.int .u64 0) (.int .u64 0) (.slice none 0 0) (.slice none 0 0) (.int .i64 0) (.int .i64 0)) := (At7.new w 32 _ _ _ _ _ _ _).kept hb1 (by simp)
  have HB1 := Lib.hid (HB0.out.trans (hb1.mono (by simp)))
  have HR2 := Lib.hid hr2
  have HR3 := Lib.hid hr3
  clear hr2 hr3 hb1
  obtain ⟨hl7, hf7, g0, g1, g2, g3, g4, g5, g6⟩ := H7.out
  by_cases h0 : f = 0
  · subst h0
    by_cases h1 : q < s.size
    · have HI2 : Hid (vread l = (13, q, noVer)) := HI.out.trans ((if_neg (by simp)).trans (if_pos (by rw [← HL.out]; exact Nat.ne_of_lt h1)))
      clear HI
      go_wp2
      exact bodyPost_ret (v := .agg #[.int .u64 0, .int .u64 0, .int .u64 0, .slice none 0 0, .slice none 0 0, .int .i64 (q : Int), .int .i64 13]) (by simp [results, Try.results9, go_sem, g0, g1, g2, g3, g4, g5, g6, hl7]) rfl (by rw [HI2.out]; exact GotPost.bad (q := q) (f := 13) ((((((((HB1.out.setCell (by simp) _).setCell (by simp) _).setCell (by simp) _).setCell (by simp) _).setCell (by simp) _).setCell (by simp) _).setCell (by simp) _).alloc (by simp; omega) _))
    · have HI2 : Hid (vread l = (0, 0, ⟨x, y, z, xs, ys⟩)) := HI.out.trans ((if_neg (by simp)).trans (if_neg (by rw [← HL.out]; simp only [ne_eq, Decidable.not_not]; omega)))
      have RA := Lib.hid (Semver.set7 HR2.out H7.out (by simp) (by simp) (by simp) (by simp) (by simp) (by simp) (by simp) (.int .u64 (x : Int)) (.int .u64 (y : Int)) (.int .u64 (z : Int)) (.slice A2 xs.length c2) (.slice A3 ys.length c3) (.int .i64 0) (.int .i64 0))
      have RB := Lib.hid (Semver.set7 HR3.out H7.out (by simp) (by simp) (by simp) (by simp) (by simp) (by simp) (by simp) (.int .u64 (x : Int)) (.int .u64 (y : Int)) (.int .u64 (z : Int)) (.slice A2 xs.length c2) (.slice A3 ys.length c3) (.int .i64 0) (.int .i64 0))
      clear HI
      go_wp2
      exact bodyPost_ret (v := .agg #[.int .u64 (x : Int), .int .u64 (y : Int), .int .u64 (z : Int), .slice A2 xs.length c2, .slice A3 ys.length c3, .int .i64 0, .int .i64 0]) (by simp [results, Try.results9, go_sem, g0, g1, g2, g3, g4, g5, g6, hl7]) rfl (by rw [HI2.out]; exact ⟨A2, c2, A3, c3, rfl, hc2, hc3, RA.out.kept ((Below.refl _ _).alloc (Nat.le_refl _) _), RB.out.kept ((Below.refl _ _).alloc (Nat.le_refl _) _), ((((((((HB1.out.setCell (by simp) _).setCell (by simp) _).setCell (by simp) _).setCell (by simp) _).setCell (by simp) _).setCell (by simp) _).setCell (by simp) _).alloc (by simp; omega) _)⟩)
  · have HI2 : Hid (vread l = (f, q, ⟨x, y, z, xs, ys⟩)) := by
      have e := HI.out.trans (if_pos h0)
      rw [← HBD.out h0] at e; exact e
    have RA := Lib.hid (Semver.set7 HR2.out H7.out (by simp) (by simp) (by simp) (by simp) (by simp) (by simp) (by simp) (.int .u64 (x : Int)) (.int .u64 (y : Int)) (.int .u64 (z : Int)) (.slice A2 xs.length c2) (.slice A3 ys.length c3) (.int .i64 (q : Int)) (.int .i64 (f : Int)))
    have RB := Lib.hid (Semver.set7 HR3.out H7.out (by simp) (by simp) (by simp) (by simp) (by simp) (by simp) (by simp) (.int .u64 (x : Int)) (.int .u64 (y : Int)) (.int .u64 (z : Int)) (.slice A2 xs.length c2) (.slice A3 ys.length c3) (.int .i64 (q : Int)) (.int .i64 (f : Int)))
    have hb1 : ((f : Int) != 0) = true := by simp [h0]
    have hb2 : ((f : Int) == 0) = false := by simp [h0]
    clear h0 HI HBD
    go_wp2
    exact bodyPost_ret (v := .agg #[.int .u64 (x : Int), .int .u64 (y : Int), .int .u64 (z : Int), .slice A2 xs.length c2, .slice A3 ys.length c3, .int .i64 (q : Int), .int .i64 (f : Int)]) (by simp [results, Try.results9, go_sem, g0, g1, g2, g3, g4, g5, g6, hl7]) rfl (by rw [HI2.out]; exact ⟨A2, c2, A3, c3, rfl, hc2, hc3, RA.out.kept ((Below.refl _ _).alloc (Nat.le_refl _) _), RB.out.kept ((Below.refl _ _).alloc (Nat.le_refl _) _), ((((((((HB1.out.setCell (by simp) _).setCell (by simp) _).setCell (by simp) _).setCell (by simp) _).setCell (by simp) _).setCell (by simp) _).setCell (by simp) _).alloc (by simp; omega) _)⟩)
end Go.Proofs.Ytfimjmikmbkkgaa.Semver
