/-
  The law IdentRows answers true for any bytes, any place and either kind of row, and writes nothing that was there. Condition: the slice reads as a list of bytes.
-/
import Derived.Test.YtnnmhamiegekpaaDoorIdAwake
import Derived.Test.YtnnmhamiegekpaaDoorIdRefRow
namespace Go.Proofs.YtnnmhamiegekpaaDoor.Ident
open Go.RowKit Num

theorem shut_len {pre : Bool} {w : List UInt8} {acc : List (List UInt8)} {n : Nat} : (shut pre w acc n).2.2.length ≤ 17 := by
  unfold shut
  split
  · rename_i h
    have := (fault_pos h).2.2
    simp; omega
  · simp
theorem go_len (pre : Bool) (l w : List UInt8) (acc : List (List UInt8)) (n : Nat) : (go pre l w acc n).2.2.length ≤ 17 := by
  induction l generalizing w acc n with
  | nil => rw [go]; exact shut_len
  | cons b r ih =>
    rw [go]
    split
    · exact ih _ _ _
    · split
      · split
        · exact ih _ _ _
        · simp
      · exact shut_len
theorem row_len (l : List UInt8) (p : Int) (pre : Bool) : (row l p pre).2.2.length ≤ 17 := by
  unfold row
  split
  · simp
  · exact go_len _ _ _ _ _

set_option maxRecDepth 100000 in
set_option maxHeartbeats 1600000 in
theorem identRows_any (A : Option Addr) (n c : Nat) (l : List UInt8) (p : Int) (pre : Bool) (w : World) (r : Row w A n l) (hc : n ≤ c) :
    Calls Tryd.prog 3 #[.slice A n c, .int .i64 p, .bool pre] w fun e w' => e = .returned (.bool true) ∧ Below w.heap.size w w' := by
  have m0 := r.2.1
  unfold maxLen at m0
  have R := Lib.hid r
  have HL := Lib.hid r.1
  clear r
  by_cases h0 : 600 < n
  · go_enter Tryd.func3, Tryd.ntmps3
    go_wp2_with fail
    refine (awake_any _).mono ?_
    rintro e w1 ⟨rfl, hb1⟩
    go_wp2
    go_ret
    exact ⟨rfl, hb1⟩
  · have HLN := Lib.hid (row_len l p pre)
    go_enter Tryd.func3, Tryd.ntmps3
    go_wp2_with fail
    refine (awake_any _).mono ?_
    rintro e w1 ⟨rfl, hb1⟩
    have HB1 := Lib.hid hb1; clear hb1
    have hz1 := HB1.out.size
    go_wp2_with fail
    refine (row_any _ _ _ l p pre _ (R.out.kept HB1.out) hc).mono ?_
    have HRR := Lib.hid (fun W hs => ref_row_any (mk l) p pre W hs)
    rw [mk_list] at HRR
    obtain ⟨⟨E, N, xs⟩, hr⟩ : ∃ t, row l p pre = t := ⟨_, rfl⟩
    rw [hr] at HRR HLN ⊢
    clear hr
    have hxl : xs.length ≤ 17 := HLN.out
    rintro e w2 ⟨A2, c2, rfl, hc2, hr2, hb2⟩
    simp only at hc2 hr2 ⊢
    have HR2 := Lib.hid hr2
    have HB2 := Lib.hid (HB1.out.trans (hb2.mono hz1))
    clear hr2 hb2
    have hz2 := HB2.out.size
    have htx := run_text (R.out.kept HB2.out) c
    go_wp2_with fail
    refine (HRR.out _ (by rw [mk_size, HL.out]; omega)).mono ?_
    rintro e w3 ⟨A3, c3, rfl, hc3, hr3, hb3⟩
    simp only at hc3 hr3 ⊢
    have HX3 := Lib.hid (HR2.out.kept hb3)
    have HR3 := Lib.hid hr3
    have HB3 := Lib.hid (HB2.out.trans (hb3.mono hz2))
    clear hr3 hb3 htx
    have hz3 := HB3.out.size
    have HBA := Lib.hid ((Below.refl w3.heap.size w3).alloc (Nat.le_refl _) (.cells #[.slice A3 xs.length c3, .int .i64 (N : Int), .int .i64 (E : Int)] 29))
    go_wp2_with fail
    refine (same_any _ _ _ xs _ _ _ xs _ (HX3.out.kept HBA.out) (HR3.out.kept HBA.out) (by unfold maxLen; omega) (by unfold maxLen; omega)).mono ?_
    rw [(sameB_iff xs xs).2 rfl]
    rintro e w4 ⟨rfl, hb4⟩
    have HB4 := Lib.hid ((HB3.out.alloc hz3 _).trans (hb4.mono (by simp; omega)))
    obtain ⟨hcc, hff⟩ : (∀ b o, b < w3.heap.size + 1 → w4.cell? ⟨b, o, none⟩ = (w3.alloc (.cells #[.slice A3 xs.length c3, .int .i64 (N : Int), .int .i64 (E : Int)] 29)).cell? ⟨b, o, none⟩) ∧ True :=
      ⟨fun b o h => hb4.cell (p := ⟨b, o, none⟩) (by simpa using h), trivial⟩
    clear hb4 hff
    go_wp2
    go_ret
    exact ⟨rfl, HB4.out⟩
end Go.Proofs.YtnnmhamiegekpaaDoor.Ident
