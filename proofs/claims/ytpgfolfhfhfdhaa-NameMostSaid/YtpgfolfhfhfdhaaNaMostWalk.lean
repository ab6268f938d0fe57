/-
  The law NameMost answers true for any number, and writes nothing that was there, if package name answers as told (Says). No further condition.
-/
import Derived.Test.YtpgfolfhfhfdhaaNaTablesWalk
import Derived.Test.YtpgfolfhfhfdhaaNaMostMath
namespace Go.Proofs.Ytpgfolfhfhfdhaa.Name
open Go.RowKit Num Ident Fr Ints

theorem nm_bytes (a b c d : Nat) (ha : a < 16) (hb : b < 16) (hc : c < 16) (hd : d < 16) : [UInt8.ofNat (97 + a), UInt8.ofNat (97 + b), UInt8.ofNat (97 + c), UInt8.ofNat (97 + d)].map (fun x => Value.int .u8 (x.toNat : Int)) = [.int .u8 (97 + (a : Int)), .int .u8 (97 + (b : Int)), .int .u8 (97 + (c : Int)), .int .u8 (97 + (d : Int))] := by
  simp only [List.map_cons, List.map_nil, byte_of (show 97 + a < 256 by omega), byte_of (show 97 + b < 256 by omega), byte_of (show 97 + c < 256 by omega), byte_of (show 97 + d < 256 by omega)]
  rfl
theorem run_nm (W : World) (i a b c d : Nat) (ha : i % 16 = a) (hb : i / 16 % 16 = b) (hc : i / 256 % 16 = c) (hd : i / 4096 = d) (hi : i < 4101) :
    (convert 22 9 (.slice (some ⟨W.heap.size, 0, none⟩) 4 4)).run Try.prog (W.alloc (.cells #[.int .u8 (97 + (a : Int)), .int .u8 (97 + (b : Int)), .int .u8 (97 + (c : Int)), .int .u8 (97 + (d : Int))] 5)) = .ok (.string (mk (nm i))) (W.alloc (.cells #[.int .u8 (97 + (a : Int)), .int .u8 (97 + (b : Int)), .int .u8 (97 + (c : Int)), .int .u8 (97 + (d : Int))] 5)) := by
  have hr : Row (W.alloc (.cells #[.int .u8 (97 + (a : Int)), .int .u8 (97 + (b : Int)), .int .u8 (97 + (c : Int)), .int .u8 (97 + (d : Int))] 5)) (some ⟨W.heap.size, 0, none⟩) 4 (nm i) :=
    Row.new W (nm i) _ 5 (0, 0) (by unfold nm; rw [ha, hb, hc, hd, nm_bytes a b c d (by omega) (by omega) (by omega) (by omega)]) (by simp [nm, maxLen])
  exact run_text hr 4
set_option maxRecDepth 100000 in
set_option maxHeartbeats 3200000 in
theorem nameMost_of (S : Says) (u : Int) (w : World) (u0 : 0 ≤ u) (u1 : u ≤ 65535) :
    Calls Try.prog 5 #[.int .u16 u] w fun e w' => e = .returned (.bool true) ∧ Below w.heap.size w w' := by
  have HS := Lib.hid S
  clear S
  have hm0 : 0 ≤ u.tmod 4101 := Int.tmod_nonneg _ u0
  have hm1 : u.tmod 4101 < 4101 := Int.tmod_lt_of_pos _ (by omega)
  obtain ⟨k, hk⟩ : ∃ k : Nat, u.tmod 4101 = (k : Int) := ⟨(u.tmod 4101).toNat, by omega⟩
  have hkl : k < 4101 := by omega
  clear hm0 hm1
  go_enter Try.func5, Try.ntmps5
  go_wp2_with fail
  refine (awake_of HS.out _).mono ?_
  rintro e w1 ⟨rfl, hb1⟩
  have HB1 := Lib.hid hb1; clear hb1
  go_upto_region 4 with (fail)
  have HLA := Lib.hid (LA.new w w1 HB1.out 35)
  obtain ⟨tb, htb⟩ : ∃ tb, w1.heap.size = tb := ⟨_, rfl⟩
  rw [htb] at HLA ⊢
  generalize w1.alloc (.cells #[.map none, .slice none 0 0] 35) = W0 at HLA ⊢
  clear htb
  go_wp2
  have HK := Lib.hid hk
  clear hk
  go_loopw [5] (fun i W => ∃ (j : Nat) (T : Nat → Prop), j ≤ k ∧ i = .int .i64 j ∧ Hid (LA w tb T (.slice none 0 0) (nms (min j 4096)) [] W)) (fun i _ => k - (intOf i).toNat)
  case atStart => exact ⟨0, _, by omega, rfl, HLA.out⟩
  case round =>
    rename World => wk
    obtain ⟨j, T, hj, rfl, HI⟩ := hrel
    by_cases hjk : j < k
    · obtain ⟨a, ha⟩ : ∃ a, j % 16 = a := ⟨_, rfl⟩
      obtain ⟨b0, hb0⟩ : ∃ b, j / 16 = b := ⟨_, rfl⟩
      obtain ⟨b, hb⟩ : ∃ b, b0 % 16 = b := ⟨_, rfl⟩
      obtain ⟨c0, hc0⟩ : ∃ c, j / 256 = c := ⟨_, rfl⟩
      obtain ⟨c, hc⟩ : ∃ c, c0 % 16 = c := ⟨_, rfl⟩
      obtain ⟨d, hd⟩ : ∃ d, j / 4096 = d := ⟨_, rfl⟩
      have q0 : (j : Int).tmod 16 = (a : Int) := by rw [← ha]; exact (Int.ofNat_tmod j 16).symm
      have q1 : (j : Int).tdiv 16 = (b0 : Int) := by rw [← hb0]; exact (Int.ofNat_tdiv j 16).symm
      have q2 : (b0 : Int).tmod 16 = (b : Int) := by rw [← hb]; exact (Int.ofNat_tmod b0 16).symm
      have q3 : (j : Int).tdiv 256 = (c0 : Int) := by rw [← hc0]; exact (Int.ofNat_tdiv j 256).symm
      have q4 : (c0 : Int).tmod 16 = (c : Int) := by rw [← hc]; exact (Int.ofNat_tmod c0 16).symm
      have q5 : (j : Int).tdiv 4096 = (d : Int) := by rw [← hd]; exact (Int.ofNat_tdiv j 4096).symm
      have htx := run_nm wk j a b c d ha (by rw [hb0]; exact hb) (by rw [hc0]; exact hc) hd (by omega)
      have l1 : a < 16 := by omega
      have l2 : b0 < 257 := by omega
      have l3 : b < 16 := by omega
      have l4 : c0 < 17 := by omega
      have l5 : c < 16 := by omega
      have l6 : d < 2 := by omega
      clear ha hb0 hb hc0 hc hd
      go_upto_region 9 with (fail)
      have HI2 := Lib.hid (HI.out.kept ((Below.refl _ _).alloc (Nat.le_refl _) (.cells #[.int .u8 (97 + (a : Int)), .int .u8 (97 + (b : Int)), .int .u8 (97 + (c : Int)), .int .u8 (97 + (d : Int))] 5)))
      clear htx q0 q1 q2 q3 q4 q5
      generalize wk.alloc (.cells #[.int .u8 (97 + (a : Int)), .int .u8 (97 + (b : Int)), .int .u8 (97 + (c : Int)), .int .u8 (97 + (d : Int))] 5) = wl at HI2 ⊢
      go_wp2_with fail
      refine (HS.out.add tb T _ (mk (nm j)) _ HI2.out.tab (by rw [mk_size]; simp [nm, maxLen])).mono ?_
      rw [mk_list]
      intro e w2 h
      obtain ⟨he, T2, h2⟩ := HI2.out.add h
      clear h
      by_cases hj6 : j < 4096
      · have hnot : nm j ∉ nms (min j 4096) := by
          rw [Nat.min_eq_left (by omega), nms_mem (by omega) (by omega)]; omega
        obtain ⟨p1, p2, p3⟩ := addX_new (nm_name (show j < 4101 by omega)) hnot (by rw [nms_length]; omega)
        rw [p2, p3] at he
        rw [p1, Nat.min_eq_left (by omega), ← nms_succ] at h2
        rw [nms_length, Nat.min_eq_left (by omega)] at he
        have H2 := Lib.hid h2
        subst he
        clear p1 p2 p3 h2 hnot
        have hne : ((j : Int) != (j : Int)) = false := by simp
        have hlt : ¬ (4096 ≤ (j : Int)) := by omega
        go_wp2
        refine ⟨⟨j + 1, T2, by omega, by go_num, by rw [Nat.min_eq_left (by omega)]; exact H2.out⟩, by simp [intOf]; omega⟩
      · have hnot : nm j ∉ nms (min j 4096) := by
          rw [Nat.min_eq_right (by omega), nms_mem (by omega) (by omega)]; omega
        obtain ⟨p1, p2, p3⟩ := addX_full (nm_name (show j < 4101 by omega)) hnot (by rw [nms_length]; omega)
        rw [p2, p3] at he
        rw [p1, Nat.min_eq_right (by omega)] at h2
        have H2 := Lib.hid h2
        subst he
        clear p1 p2 p3 h2 hnot
        have hlt : 4096 ≤ (j : Int) := by omega
        go_wp2
        refine ⟨⟨j + 1, T2, by omega, by go_num, by rw [Nat.min_eq_right (by omega)]; exact H2.out⟩, by simp [intOf]; omega⟩
    · obtain rfl : j = k := by omega
      go_wp2_with fail
      refine (HS.out.add tb T _ (mk (nm 0)) _ HI.out.tab (by rw [mk_size]; simp [nm, maxLen])).mono ?_
      rw [mk_list]
      intro e w2 h
      obtain ⟨he, T2, h2⟩ := HI.out.add h
      clear h
      have hadd : addX (nms (min j 4096)) (nm 0) = nms (max (min j 4096) 1) ∧ addN (nms (min j 4096)) (nm 0) = 0 ∧ addE (nms (min j 4096)) (nm 0) = 0 := by
        by_cases hz : j = 0
        · subst hz; exact (by decide)
        · have hin : nm 0 ∈ nms (min j 4096) := (nms_mem (by omega) (by omega)).2 (by omega)
          obtain ⟨p1, p2, p3⟩ := addX_old (nm_name (show 0 < 4101 by omega)) hin
          rw [nms_find (by omega) (by omega)] at p3
          exact ⟨by rw [p1, Nat.max_eq_left (by omega)], p3, p2⟩
      rw [hadd.2.1, hadd.2.2] at he
      rw [hadd.1] at h2
      have H2 := Lib.hid h2
      subst he
      clear hadd h2
      go_wp2_with fail
      refine (HS.out.len tb T2 _ _ H2.out.tab).mono ?_
      rw [nms_length]
      rintro e w3 ⟨rfl, hb⟩
      have H3 := Lib.hid (H2.out.kept hb)
      clear hb
      go_wp2
      go_ret
      exact ⟨rfl, H3.out.bel⟩
end Go.Proofs.Ytpgfolfhfhfdhaa.Name
