/-
  The law NameScans answers true for any bytes and any place, and writes nothing that was there, if package name answers as told (Says). Condition: the slice reads as a list of bytes.
-/
import Derived.Test.YtpgfolfhfhfdhaaNaSays
import Derived.Test.YtpgfolfhfhfdhaaTk
namespace Go.Proofs.Ytpgfolfhfhfdhaa.Name
open Go.RowKit Num Ident Fr

set_option maxRecDepth 100000 in
set_option maxHeartbeats 1600000 in
theorem nameScans_of (S : Says) (A : Option Addr) (n c : Nat) (l : List UInt8) (p : Int) (w : World) (r : Row w A n l) (hc : n ≤ c) :
    Calls Try.prog 3 #[.slice A n c, .int .i64 p] w fun e w' => e = .returned (.bool true) ∧ Below w.heap.size w w' := by
  have HS := Lib.hid S
  have m0 := r.2.1
  unfold maxLen at m0
  have R := Lib.hid r
  have HL := Lib.hid r.1
  clear S r
  by_cases h0 : 600 < n
  · go_enter Try.func3, Try.ntmps3
    go_wp2_with fail
    refine (awake_of HS.out _).mono ?_
    rintro e w1 ⟨rfl, hb1⟩
    go_wp2
    go_ret
    exact ⟨rfl, hb1⟩
  · go_enter Try.func3, Try.ntmps3
    go_wp2_with fail
    refine (awake_of HS.out _).mono ?_
    rintro e w1 ⟨rfl, hb1⟩
    have HB1 := Lib.hid hb1; clear hb1
    go_wp2_with fail
    refine (HS.out.scan _ _ _ l p _ (R.out.kept HB1.out) hc).mono ?_
    unfold scanOut
    have HRS := Lib.hid (fun W => ref_scan_any (mk l) p W (by rw [mk_size, HL.out]; omega))
    unfold scanOut at HRS
    rw [mk_list] at HRS
    obtain ⟨⟨a, b⟩, hr⟩ : ∃ t, nscan l p = t := ⟨_, rfl⟩
    rw [hr] at HRS ⊢
    clear hr
    rintro e w2 ⟨rfl, hb2⟩
    have HB2 := Lib.hid (HB1.out.trans (hb2.mono HB1.out.size))
    clear hb2
    have htx := run_text (R.out.kept HB2.out) c
    go_wp2_with fail
    refine (HRS.out _).mono ?_
    rintro e w3 ⟨rfl, rfl⟩
    clear htx
    obtain ⟨nm, hnm⟩ : ∃ nm, isName l = nm := ⟨_, rfl⟩
    have HNM := Lib.hid hnm; clear hnm
    go_upto_region 7 with (fail)
    have H0 : Hid (Below w2.heap.size w2 w2.drew) := (Below.refl _ _).drew
    refine wp_region_held_drew (S := fun w' => Below w2.heap.size w2 w') (by kernel_rfl) H0.out (fun hHeld => ?_)
    refine tk 0 rfl (.int .i64 a) ?_
    refine tk 1 rfl (.int .i64 a) ?_
    refine tk 2 rfl (.bool true) ?_
    refine tk 3 rfl (.bool true) ?_
    refine tk 4 rfl (.int .i64 b) ?_
    refine tk 5 rfl (.int .i64 b) ?_
    refine tk 6 rfl (.bool true) ?_
    refine tk 7 rfl (.bool true) ?_
    refine tk 8 rfl (.bool true) ?_
    refine tk 9 rfl (.slice A n c) ?_
    refine tk 10 rfl (.string (mk l)) ?_ (hv := fun w' hS' => by have htx := run_text (R.out.kept (HB2.out.trans (hS'.mono HB2.out.size))) c; go_simp)
    refine tk 12 rfl (.slice A n c) ?_
    refine tk 13 rfl (.string (mk l)) ?_ (hv := fun w' hS' => by have htx := run_text (R.out.kept (HB2.out.trans (hS'.mono HB2.out.size))) c; go_simp)
    refine cl 11 rfl fun K hK => ?_
    go_simp
    refine (HS.out.good (mk l) _ (by rw [mk_size, HL.out]; unfold maxLen; omega)).mono ?_
    rw [mk_list, HNM.out]
    rintro e w4 ⟨rfl, hb4⟩
    have H4 : Hid (Below w2.heap.size w2 w4) := H0.out.trans (hb4.mono H0.out.size)
    refine hK.out _ _ H4.out (fun hHeld2 => ?_)
    clear hK K hb4
    try simp only [Act.put, p1, p2, p3]
    refine cl 14 rfl fun K hK => ?_
    go_simp
    refine (ref_good_any (mk l) _ (by rw [mk_size, HL.out]; omega)).mono ?_
    rw [mk_list, HNM.out]
    rintro e w5 ⟨rfl, rfl⟩
    refine hK.out _ _ H4.out (fun hHeld3 => ?_)
    clear hK K
    try simp only [Act.put, p1, p2, p3]
    refine tk 15 rfl (.bool true) ?_
    refine tk 16 rfl (.bool true) ?_
    refine tk 17 rfl (.bool true) ?_
    refine wpAnyH_done (by kernel_rfl) ?_ _
    go_wp2
    go_ret
    exact ⟨rfl, HB2.out.trans (H4.out.mono HB2.out.size)⟩
end Go.Proofs.Ytpgfolfhfhfdhaa.Name
