/-
  Which bytes stand in names, how many bytes of a name bytes begin with, and what Scan and Good answer (name.plain, mark, length, Scan, Good): the same as the plain ones. Conditions: the slice reads as the list of bytes; the text's length is one that the form allows.
-/
import Derived.Test.YtpgfolfhfhfdhaaNaRef
import Derived.Test.YtpgfolfhfhfdhaaIdMem
import Derived.Test.YtpgfolfhfhfdhaaNumBytes
namespace Go.Proofs.Ytpgfolfhfhfdhaa.Name
open Go.RowKit Num

set_option maxRecDepth 100000 in
set_option maxHeartbeats 800000 in
theorem plain_any (x : Int) (w : World) (h0 : 0 ≤ x) (h1 : x ≤ 255) :
    Calls Try.prog 26 #[.int .u8 x] w fun e w' => e = .returned (.bool (fstB x)) ∧ w = w' := by
  by_cases ha : 97 ≤ x
  · by_cases hb : x ≤ 122
    · have HF := Lib.hid ((fstB_iff x).2 (.inl ⟨ha, hb⟩))
      go_enter Try.func26, Try.ntmps26
      go_wp2
      go_ret
      exact ⟨by rw [HF.out]; rfl, rfl⟩
    · have HF := Lib.hid (fstB_no (x := x) (by omega))
      have hc : 48 ≤ x := by omega
      have hd : ¬ x ≤ 57 := by omega
      go_enter Try.func26, Try.ntmps26
      go_wp2
      go_ret
      exact ⟨by rw [HF.out]; rfl, rfl⟩
  · by_cases hc : 48 ≤ x
    · by_cases hd : x ≤ 57
      · have HF := Lib.hid ((fstB_iff x).2 (.inr ⟨hc, hd⟩))
        go_enter Try.func26, Try.ntmps26
        go_wp2
        go_ret
        exact ⟨by rw [HF.out]; rfl, rfl⟩
      · have HF := Lib.hid (fstB_no (x := x) (by omega))
        go_enter Try.func26, Try.ntmps26
        go_wp2
        go_ret
        exact ⟨by rw [HF.out]; rfl, rfl⟩
    · have HF := Lib.hid (fstB_no (x := x) (by omega))
      go_enter Try.func26, Try.ntmps26
      go_wp2
      go_ret
      exact ⟨by rw [HF.out]; rfl, rfl⟩
/-- May a byte stand in a name, though it begins none? -/
def mrkB (x : Int) : Bool := decide (x = 45 ∨ x = 95 ∨ x = 46)
theorem mrkB_iff (x : Int) : mrkB x = true ↔ x = 45 ∨ x = 95 ∨ x = 46 := by simp [mrkB]
set_option maxRecDepth 100000 in
set_option maxHeartbeats 800000 in
theorem mark_any (x : Int) (w : World) :
    Calls Try.prog 27 #[.int .u8 x] w fun e w' => e = .returned (.bool (mrkB x)) ∧ w = w' := by
  by_cases h1 : x = 45
  · have HF := Lib.hid ((mrkB_iff x).2 (.inl h1))
    have b1 : (x == 45) = true := by rw [h1]; rfl
    clear h1
    go_enter Try.func27, Try.ntmps27
    go_wp2
    go_ret
    exact ⟨by rw [HF.out]; rfl, rfl⟩
  · have b1 : (x == 45) = false := by simp [h1]
    by_cases h2 : x = 95
    · have HF := Lib.hid ((mrkB_iff x).2 (.inr (.inl h2)))
      have b2 : (x == 95) = true := by rw [h2]; rfl
      clear h2 h1
      go_enter Try.func27, Try.ntmps27
      go_wp2
      go_ret
      exact ⟨by rw [HF.out]; rfl, rfl⟩
    · have b2 : (x == 95) = false := by simp [h2]
      have HF : Hid (mrkB x = (x == 46)) := by
        unfold Hid; rw [Bool.eq_iff_iff, mrkB_iff]; simp [h1, h2]
      clear h1 h2
      go_enter Try.func27, Try.ntmps27
      go_wp2
      go_ret
      exact ⟨by rw [HF.out]; rfl, rfl⟩
def NlJ (w : World) (A : Option Addr) (n c : Nat) (l : List UInt8) (a' : Act) (w' : World) : Prop :=
  w = w' ∧ ∃ (k : Nat) (u4 u5 u6 u7 u8 u9 u10 u11 u12 u13 u14 u15 u16 u17 u18 u19 u20 u21 u22 u23 u24 u25 u26 u27 u28 : Value), k ≤ n ∧ (∀ j, j < k → okB j (byteAt l j) = true) ∧ a' = { tmps := #[.slice A n c, undef, .int .i64 0, .int .i64 k, u4, u5, u6, u7, u8, u9, u10, u11, u12, u13, u14, u15, u16, u17, u18, u19, u20, u21, u22, u23, u24, u25, u26, u27, u28], defers := [] }
def NlM (n : Nat) (a' : Act) (_ : World) : Nat := n - (intOf (a'.tmps.getD 3 undef)).toNat
set_option maxRecDepth 100000 in
set_option maxHeartbeats 800000 in
theorem nlength_any (A : Option Addr) (n c : Nat) (l : List UInt8) (w : World) (h : Row w A n l) :
    Calls Try.prog 20 #[.slice A n c] w fun e w' => e = .returned (.int .i64 (nlen l)) ∧ w = w' := by
  obtain ⟨hl, hm, hc⟩ := h
  unfold maxLen at hm
  have HC := Lib.hid hc; clear hc
  have HL := Lib.hid hl; clear hl
  go_enter Try.func20, Try.ntmps20
  go_wp2
  refine wp_scope_back 0 (NlJ w A n c l) (NlM n) rfl ?_ ?_
  · rintro a' w' ⟨rfl, k, u4, u5, u6, u7, u8, u9, u10, u11, u12, u13, u14, u15, u16, u17, u18, u19, u20, u21, u22, u23, u24, u25, u26, u27, u28, hk, hd, rfl⟩
    have HD := Lib.hid hd; clear hd
    by_cases hlt : k < n
    · obtain ⟨b, o, rfl, hb, hcell⟩ := HC.out (by omega)
      have hx := hcell k hlt
      clear hcell HC
      have hbd := byteAt_bd l k
      have HN : Hid (okB k (byteAt l k) = true → ∀ j, j < k + 1 → okB j (byteAt l j) = true) := fun hi j hj => by
        rcases Nat.lt_or_ge j k with hj1 | hj1
        · exact HD.out j hj1
        · obtain rfl : j = k := by omega
          exact hi
      have HS : Hid (okB k (byteAt l k) = false → nlen l = k) := fun hn => nrun_stop l 0 k (by rw [HL.out]; omega) (fun j hj => by rw [Nat.zero_add]; exact HD.out j hj) (.inr (by rw [Nat.zero_add]; exact hn))
      generalize byteAt l k = x at hx hbd HN HS
      obtain ⟨hx0, hx1⟩ := hbd
      go_wp2_with fail
      refine (plain_any _ _ hx0 hx1).mono ?_
      rintro e w' ⟨rfl, rfl⟩
      cases h1 : fstB x
      · have H1 := Lib.hid h1; clear h1
        by_cases hk0 : k = 0
        · have HZ := Lib.hid (HS.out (okB_no H1.out (.inl hk0)))
          have hk1 : ¬ 0 < k := by omega
          clear hk0
          go_wp2
          simp only [Exit.jump]
          go_ret
          exact ⟨ret_int (by rw [HZ.out]), rfl⟩
        · have hk1 : 0 < k := by omega
          have HK := Lib.hid hk0; clear hk0
          go_wp2_with fail
          refine (mark_any _ _).mono ?_
          rintro e w' ⟨rfl, rfl⟩
          cases h2 : mrkB x
          · have HZ := Lib.hid (HS.out (okB_no H1.out (.inr (fun h => by rw [(mrkB_iff x).2 h] at h2; cases h2))))
            clear h2
            go_wp2
            simp only [Exit.jump]
            go_ret
            exact ⟨ret_int (by rw [HZ.out]), rfl⟩
          · have HY := Lib.hid (HN.out ((okB_iff k x).2 (.inr ⟨hk1, (mrkB_iff x).1 h2⟩)))
            clear h2
            go_wp2
            go_step3
            rw [show ((k : Int) + 1) = ((k + 1 : Nat) : Int) from rfl]
            refine ⟨rfl, ⟨rfl, k + 1, _, _, _, _, _, _, _, _, _, _, _, _, _, _, _, _, _, _, _, _, _, _, _, _, _, by omega, HY.out, rfl⟩, ?_⟩
            simp [NlM, intOf]; omega
      · have HY := Lib.hid (HN.out ((okB_iff k x).2 (.inl h1)))
        clear h1
        go_wp2
        go_step3
        rw [show ((k : Int) + 1) = ((k + 1 : Nat) : Int) from rfl]
        refine ⟨rfl, ⟨rfl, k + 1, _, _, _, _, _, _, _, _, _, _, _, _, _, _, _, _, _, _, _, _, _, _, _, _, _, by omega, HY.out, rfl⟩, ?_⟩
        simp [NlM, intOf]; omega
    · have HS : Hid (nlen l = k) := nrun_stop l 0 k (by rw [HL.out]; omega) (fun j hj => by rw [Nat.zero_add]; exact HD.out j hj) (.inl (by rw [HL.out]; omega))
      go_wp2
      simp only [Exit.jump]
      go_ret
      exact ⟨ret_int (by rw [HS.out]), rfl⟩
  · intro HP
    go_wp2
    go_step3
    rename_i hK
    exact hK _ _ (HP.out _ _ ⟨rfl, 0, _, _, _, _, _, _, _, _, _, _, _, _, _, _, _, _, _, _, _, _, _, _, _, _, _, by omega, (fun j hj => by omega), rfl⟩)

set_option maxRecDepth 100000 in
set_option maxHeartbeats 1600000 in
theorem scan_any (A : Option Addr) (n c : Nat) (l : List UInt8) (p : Int) (w : World) (h : Row w A n l) (hc : n ≤ c) :
    Calls Try.prog 8 #[.slice A n c, .int .i64 p] w fun e w' => e = .returned (scanOut l p) ∧ w = w' := by
  have hm := h.2.1
  unfold maxLen at hm
  by_cases ho : p < 0 ∨ (n : Int) < p
  · have HF : Hid (scanOut l p = .tuple #[.int .i64 0, .int .i64 1]) := by unfold Hid scanOut; rw [nscan_arg (by rw [h.1]; exact ho)]
    by_cases h0 : p < 0
    · go_enter Try.func8, Try.ntmps8
      go_wp2
      go_ret2
      exact ⟨by rw [HF.out]; rfl, rfl⟩
    · have h1 : (n : Int) < p := by omega
      clear ho
      go_enter Try.func8, Try.ntmps8
      go_wp2
      go_ret2
      exact ⟨by rw [HF.out]; rfl, rfl⟩
  · obtain ⟨q, rfl⟩ := Int.eq_ofNat_of_zero_le (show 0 ≤ p by omega)
    have hp : q ≤ n := by omega
    have hp0 : ¬ (q : Int) < 0 := by omega
    have hp1 : ¬ n < q := by omega
    obtain ⟨R, hR⟩ : ∃ R, (if c = q then A else A.map (fun x => x.add q)) = R := ⟨_, rfl⟩
    have HR := Lib.hid (Ident.Row.from_ h q c hp hc hR)
    have HA : Hid (¬ ((q : Int) < 0 ∨ (l.length : Int) < q)) := by unfold Hid; rw [h.1]; omega
    have HO : Hid ((if nlen (l.drop q) = 0 ∨ 255 < nlen (l.drop q) then Value.tuple #[.int .i64 0, .int .i64 12] else .tuple #[.int .i64 (nlen (l.drop q) : Nat), .int .i64 0]) = scanOut l q) := by
      unfold Hid scanOut
      by_cases g : nlen (l.drop q) = 0 ∨ 255 < nlen (l.drop q)
      · rw [nscan_bad HA.out (by rw [Int.toNat_natCast]; exact g), if_pos g]
      · rw [nscan_good HA.out (by rw [Int.toNat_natCast]; exact g), if_neg g, Int.toNat_natCast]
    have hnl := nrun_le 0 (l.drop q)
    rw [show nrun 0 (l.drop q) = nlen (l.drop q) from rfl, HR.out.1] at hnl
    clear ho h HA
    go_enter Try.func8, Try.ntmps8
    go_wp2_with fail
    refine (nlength_any _ _ _ _ _ HR.out).mono ?_
    rintro e w' ⟨rfl, rfl⟩
    clear hR
    generalize nlen (l.drop q) = m at hnl HO ⊢
    have hm2 : m ≤ 9223372036854775807 := by omega
    clear hnl
    by_cases hz : m = 0
    · subst hz
      rw [if_pos (.inl rfl)] at HO
      go_wp2
      go_ret2
      exact ⟨by rw [← HO.out]; rfl, rfl⟩
    · have hzb : ((m : Int) == 0) = false := by simp [hz]
      by_cases hg : 255 < m
      · rw [if_pos (.inr hg)] at HO
        have HZ := Lib.hid hz; clear hz
        go_wp2
        go_ret2
        exact ⟨by rw [← HO.out]; rfl, rfl⟩
      · rw [if_neg (by omega)] at HO
        have HZ := Lib.hid hz; clear hz
        go_wp2
        go_ret2
        exact ⟨by rw [← HO.out]; rfl, rfl⟩

set_option maxRecDepth 100000 in
set_option maxHeartbeats 800000 in
theorem good_any (s : ByteArray) (w : World) (hs : s.size ≤ maxLen) :
    Calls Try.prog 10 #[.string s] w fun e w' => e = .returned (.bool (isName s.data.toList)) ∧ Below w.heap.size w w' := by
  have HW := Lib.hid (nscan_whole s.data.toList)
  have LS := Lib.hid (Lib.size_eq s)
  obtain ⟨cc, W1, hcc, hconv, hR, hb⟩ := run_bytes w s hs
  have HB := Lib.hid hb
  have HR := Lib.hid hR
  clear hb hR
  unfold maxLen at hs
  go_enter Try.func10, Try.ntmps10
  go_wp2_with fail
  refine (scan_any _ _ _ _ 0 _ HR.out hcc).mono ?_
  unfold scanOut
  obtain ⟨⟨n, e⟩, hr⟩ : ∃ t, nscan s.data.toList 0 = t := ⟨_, rfl⟩
  rw [hr] at HW ⊢
  clear hr
  rintro e' w' ⟨rfl, rfl⟩
  by_cases he : e = 0
  · have hb : (e == 0) = true := by simp [he]
    have HE := Lib.hid he; clear he
    by_cases hn : n = s.size
    · have hb2 : (n == (s.size : Int)) = true := by simp [hn]
      have HF : Hid (isName s.data.toList = true) := HW.out.1 ⟨HE.out, by rw [← LS.out]; exact hn⟩
      have HN := Lib.hid hn; clear hn
      go_wp2
      go_ret
      exact ⟨by rw [HF.out]; rfl, HB.out⟩
    · have hb2 : (n == (s.size : Int)) = false := by simp [hn]
      have HF : Hid (isName s.data.toList = false) := by
        unfold Hid; rw [← Bool.not_eq_true, ← HW.out, ← LS.out]; exact fun h => hn h.2
      have HN := Lib.hid hn; clear hn
      go_wp2
      go_ret
      exact ⟨by rw [HF.out]; rfl, HB.out⟩
  · have hb : (e == 0) = false := by simp [he]
    have HF : Hid (isName s.data.toList = false) := by
      unfold Hid; rw [← Bool.not_eq_true, ← HW.out]; exact fun h => he h.1
    have HE := Lib.hid he; clear he
    go_wp2
    go_ret
    exact ⟨by rw [HF.out]; rfl, HB.out⟩
end Go.Proofs.Ytpgfolfhfhfdhaa.Name
