/-
  The law NumParses answers true for any bytes and any place, and writes nothing that was there. Condition: the slice reads as a list of bytes.
-/
import Derived.Test.YtddgbekcoadolaaNumRef
import Derived.Lib.BufferRead
namespace Go.Proofs.Ytddgbekcoadolaa.Num
open Go.RowKit

set_option maxRecDepth 100000 in
set_option maxHeartbeats 800000 in
theorem ref_parse_out (s : ByteArray) (p : Int) (w : World) (ho : p < 0 ∨ (s.size : Int) < p) :
    Calls Try.prog 8 #[.string s, .int .i64 p] w fun e w' => e = .returned (refOut s.data.toList p) ∧ Below w.heap.size w w' := by
  have HF : Hid (parse s.data.toList p = (0, 0, 1)) := by
    unfold Hid parse; rw [if_pos (by rw [← Lib.size_eq]; exact ho)]
  by_cases h0 : p < 0
  · go_enter Try.func8, Try.ntmps8
    go_wp2
    exact bodyPost_ret (v := refOut s.data.toList p) (by unfold refOut; rw [HF.out]; simp [results, Try.results8, go_sem]) rfl ⟨rfl, ((Below.refl _ _).alloc (Nat.le_refl _) _)⟩
  · have h1 : (s.size : Int) < p := by omega
    clear ho
    go_enter Try.func8, Try.ntmps8
    go_wp2
    exact bodyPost_ret (v := refOut s.data.toList p) (by unfold refOut; rw [HF.out]; simp [results, Try.results8, go_sem]) rfl ⟨rfl, ((Below.refl _ _).alloc (Nat.le_refl _) _)⟩

theorem ref_parse_any (s : ByteArray) (p : Int) (w : World) (hs : s.size ≤ 200) :
    Calls Try.prog 8 #[.string s, .int .i64 p] w fun e w' => e = .returned (refOut s.data.toList p) ∧ Below w.heap.size w w' := by
  by_cases ho : p < 0 ∨ (s.size : Int) < p
  · exact ref_parse_out s p w ho
  · obtain ⟨k, rfl⟩ := Int.eq_ofNat_of_zero_le (show 0 ≤ p by omega)
    exact ref_parse_in s k w hs (by omega)

/-- string(b). -/
theorem run_text {w : World} {A : Option Addr} {n : Nat} {l : List UInt8} (h : Row w A n l) (c : Nat) :
    (convert 22 9 (.slice A n c)).run Try.prog w = .ok (.string ⟨l.toArray⟩) w := by
  cases A with
  | none =>
    obtain ⟨rfl, rfl⟩ := h.nil
    exact Lib.run_convert_nil_bytes (P := Try.prog) w 22 9 5 c Try.underlying22 Try.underlying5 Try.underlying9
  | some ad =>
    have e := run_convert_bytes_back (P := Try.prog) w 22 9 5 ad c l Try.underlying22 Try.underlying5 Try.underlying9 (fun j hj => by
      have := h.news j _ (cells_at l j hj)
      rw [this]; unfold byteAt; simp [List.getElem?_eq_getElem hj])
    rwa [h.1] at e

set_option maxHeartbeats 800000 in
theorem parses_any (A : Option Addr) (n c : Nat) (l : List UInt8) (p : Int) (w : World) (r : Row w A n l) (hc : n ≤ c) :
    Calls Try.prog 3 #[.slice A n c, .int .i64 p] w fun e w' => e = .returned (.bool true) ∧ Below w.heap.size w w' := by
  have m0 := r.2.1
  unfold maxLen at m0
  have R := Lib.hid r
  clear r
  by_cases h0 : 200 < n
  · go_enter Try.func3, Try.ntmps3
    go_wp2_with fail
    refine (awake_any _).mono ?_
    rintro e w1 ⟨rfl, hb1⟩
    go_wp2
    go_ret
    exact ⟨rfl, hb1⟩
  go_enter Try.func3, Try.ntmps3
  go_wp2_with fail
  refine (awake_any _).mono ?_
  rintro e w1 ⟨rfl, hb1⟩
  go_wp2_with fail
  refine (parse_any _ _ _ l p _ (R.out.kept hb1) hc).mono ?_
  rintro e w' ⟨rfl, rfl⟩
  unfold parseOut
  obtain ⟨⟨pv, pn, pe⟩, hp⟩ : ∃ t, parse l p = t := ⟨_, rfl⟩
  rw [hp]
  have HP := Lib.hid hp; clear hp
  have hcv := run_text (R.out.kept hb1) c
  have hz1 := hb1.size
  go_wp2_with fail
  have hsz : (⟨l.toArray⟩ : ByteArray).size = n := by rw [← R.out.1]; rfl
  refine (ref_parse_any _ p _ (by rw [hsz]; omega)).mono ?_
  rintro e w2 ⟨rfl, hb2⟩
  have HR : Hid (refOut (⟨l.toArray⟩ : ByteArray).data.toList p = .agg #[.int .u64 (pv : Int), .int .i64 (pn : Int), .int .i64 (pe : Int)]) := by
    show refOut l p = _
    unfold refOut; rw [HP.out]
  rw [HR.out]
  clear hcv hsz
  have HB := Lib.hid (hb1.trans (hb2.mono hz1))
  go_wp2
  go_ret
  exact ⟨rfl, HB.out.alloc HB.out.size _⟩
end Go.Proofs.Ytddgbekcoadolaa.Num
