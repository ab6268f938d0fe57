/-
  The document's own answers on names (ferruleref08.First, Scan, Good): the same as the plain ones. Condition: the text's length is one that the form allows.
-/
import Derived.Test.YtpgfolfhfhfdhaaNaMath
import Derived.WalkSpells
namespace Go.Proofs.Ytpgfolfhfhfdhaa.Name
open Go.RowKit Num

theorem at_byte (s : ByteArray) (k : Nat) (h : k < s.size) : (s[k].toNat : Int) = byteAt s.data.toList k := at_text s k h

set_option maxRecDepth 100000 in
set_option maxHeartbeats 800000 in
theorem ref_first_any (x : Int) (w : World) (h0 : 0 ≤ x) (h1 : x ≤ 255) :
    Calls Try.prog 19 #[.int .u8 x] w fun e w' => e = .returned (.bool (fstB x)) ∧ w = w' := by
  by_cases ha : 97 ≤ x
  · by_cases hb : x ≤ 122
    · have HF := Lib.hid ((fstB_iff x).2 (.inl ⟨ha, hb⟩))
      go_enter Try.func19, Try.ntmps19
      go_wp2
      go_ret
      exact ⟨by rw [HF.out]; rfl, rfl⟩
    · have HF := Lib.hid (fstB_no (x := x) (by omega))
      have hc : 48 ≤ x := by omega
      have hd : ¬ x ≤ 57 := by omega
      go_enter Try.func19, Try.ntmps19
      go_wp2
      go_ret
      exact ⟨by rw [HF.out]; rfl, rfl⟩
  · by_cases hc : 48 ≤ x
    · by_cases hd : x ≤ 57
      · have HF := Lib.hid ((fstB_iff x).2 (.inr ⟨hc, hd⟩))
        go_enter Try.func19, Try.ntmps19
        go_wp2
        go_ret
        exact ⟨by rw [HF.out]; rfl, rfl⟩
      · have HF := Lib.hid (fstB_no (x := x) (by omega))
        go_enter Try.func19, Try.ntmps19
        go_wp2
        go_ret
        exact ⟨by rw [HF.out]; rfl, rfl⟩
    · have HF := Lib.hid (fstB_no (x := x) (by omega))
      go_enter Try.func19, Try.ntmps19
      go_wp2
      go_ret
      exact ⟨by rw [HF.out]; rfl, rfl⟩

/-- What Scan answers, as a value. -/
def scanOut (l : List UInt8) (p : Int) : Value := .tuple #[.int .i64 (nscan l p).1, .int .i64 (nscan l p).2]
theorem inB_cases (k : Nat) (x : Int) (hf : fstB x = false) : okB k x = (decide (0 < k) && decide (x = 45 ∨ x = 95 ∨ x = 46)) := by unfold okB; rw [hf]; rfl

set_option maxRecDepth 100000 in
set_option maxHeartbeats 1600000 in
theorem ref_scan_in (s : ByteArray) (p : Nat) (w : World) (hs : s.size ≤ 1000000) (hp : p ≤ s.size) :
    Calls Try.prog 9 #[.string s, .int .i64 p] w fun e w' => e = .returned (scanOut s.data.toList p) ∧ w = w' := by
  have LS := Lib.hid (Lib.size_eq s)
  have hp0 : ¬ (p : Int) < 0 := by omega
  have hp1 : ¬ s.size < p := by omega
  have HA : Hid (¬ ((p : Int) < 0 ∨ (s.data.toList.length : Int) < p)) := by unfold Hid; rw [← LS.out]; omega
  have HE : Hid (∀ m, p + m ≤ s.size → (∀ j, j < m → okB j (byteAt s.data.toList (p + j)) = true) → (p + m = s.size ∨ okB m (byteAt s.data.toList (p + m)) = false) → nlen (s.data.toList.drop (p : Int).toNat) = m) := fun m h1 h2 h3 => by
    rw [Int.toNat_natCast]
    exact nlen_stop _ p m (by rw [← LS.out]; exact h1) h2 (by rw [← LS.out]; exact h3)
  go_enter Try.func9, Try.ntmps9
  go_wp2
  go_loop [6] (fun t => ∃ k : Nat, p + k ≤ s.size ∧ t = .int .i64 k ∧ Hid (∀ j, j < k → okB j (byteAt s.data.toList (p + j)) = true)) (fun t => s.size - p - (intOf t).toNat)
  case atStart => exact ⟨0, by omega, rfl, fun j h => by omega⟩
  case round =>
    obtain ⟨k, hk, rfl, HD⟩ := hrel
    have HO : Hid (nlen (s.data.toList.drop (p : Int).toNat) = k → (if k = 0 ∨ 255 < k then Value.tuple #[.int .i64 0, .int .i64 12] else .tuple #[.int .i64 k, .int .i64 0]) = scanOut s.data.toList p) := fun e => by
      unfold scanOut
      by_cases h : k = 0 ∨ 255 < k
      · rw [nscan_bad HA.out (by rw [e]; exact h), if_pos h]
      · rw [nscan_good HA.out (by rw [e]; exact h), if_neg h, e]
    by_cases hlt : p + k < s.size
    · have HX := Lib.hid (at_byte s (p + k) hlt)
      have hbd := byteAt_bd s.data.toList (p + k)
      have HS := Lib.hid (fun h => HE.out k (by omega) HD.out (.inr h))
      have HM : Hid (okB k (byteAt s.data.toList (p + k)) = true → ∀ j, j < k + 1 → okB j (byteAt s.data.toList (p + j)) = true) := fun h j hj => by
        rcases Nat.lt_or_ge j k with hj1 | hj1
        · exact HD.out j hj1
        · obtain rfl : j = k := by omega
          exact h
      clear HE
      rw [← HX.out] at hbd HS HM
      obtain ⟨hx0, hx1⟩ := hbd
      cases hf : fstB (s[p + k].toNat : Int)
      · by_cases hk0 : k = 0
        · have HN := Lib.hid (okB_no hf (.inl hk0))
          have HK := Lib.hid hk0
          have hk1 : ¬ 0 < k := by omega
          clear hk0
          have HF1 := Lib.hid hf; clear hf
          go_wp2_with fail
          refine (ref_first_any _ _ hx0 hx1).mono ?_
          rintro e w' ⟨rfl, rfl⟩
          rw [HF1.out]
          have HF := Lib.hid (HO.out (HS.out HN.out))
          rw [if_pos (.inl HK.out)] at HF
          have hz : ((k : Int) == 0) = true := by rw [HK.out]; rfl
          go_wp2
          go_ret2
          exact ⟨by rw [← HF.out]; rfl, rfl⟩
        · have hk1 : 0 < k := by omega
          have HK := Lib.hid hk0; clear hk0
          have HF1 := Lib.hid hf; clear hf
          by_cases h1 : (s[p + k].toNat : Int) = 45
          · have HN := Lib.hid ((okB_iff k _).2 (.inr ⟨hk1, .inl h1⟩))
            have b1 : ((s[p + k].toNat : Int) == 45) = true := by rw [h1]; rfl
            clear h1
            go_wp2_with fail
            refine (ref_first_any _ _ hx0 hx1).mono ?_
            rintro e w' ⟨rfl, rfl⟩
            rw [HF1.out]
            go_wp2
            go_round
            case rel => exact ⟨k + 1, by omega, by go_num, HM.out HN.out⟩
            case measure => simp [intOf]; omega
          · have b1 : ((s[p + k].toNat : Int) == 45) = false := by simp only [beq_eq_false_iff_ne]; exact h1
            have H1 := Lib.hid h1; clear h1
            by_cases h2 : (s[p + k].toNat : Int) = 95
            · have HN := Lib.hid ((okB_iff k _).2 (.inr ⟨hk1, .inr (.inl h2)⟩))
              have b2 : ((s[p + k].toNat : Int) == 95) = true := by rw [h2]; rfl
              clear h2
              go_wp2_with fail
              refine (ref_first_any _ _ hx0 hx1).mono ?_
              rintro e w' ⟨rfl, rfl⟩
              rw [HF1.out]
              go_wp2
              go_round
              case rel => exact ⟨k + 1, by omega, by go_num, HM.out HN.out⟩
              case measure => simp [intOf]; omega
            · have b2 : ((s[p + k].toNat : Int) == 95) = false := by simp only [beq_eq_false_iff_ne]; exact h2
              have H2 := Lib.hid h2; clear h2
              by_cases h3 : (s[p + k].toNat : Int) = 46
              · have HN := Lib.hid ((okB_iff k _).2 (.inr ⟨hk1, .inr (.inr h3)⟩))
                have b3 : ((s[p + k].toNat : Int) == 46) = true := by rw [h3]; rfl
                clear h3
                go_wp2_with fail
                refine (ref_first_any _ _ hx0 hx1).mono ?_
                rintro e w' ⟨rfl, rfl⟩
                rw [HF1.out]
                go_wp2
                go_round
                case rel => exact ⟨k + 1, by omega, by go_num, HM.out HN.out⟩
                case measure => simp [intOf]; omega
              · have HN := Lib.hid (okB_no (k := k) HF1.out (.inr (by rintro (h | h | h); exact H1.out h; exact H2.out h; exact h3 h)))
                have b3 : ((s[p + k].toNat : Int) == 46) = false := by simp only [beq_eq_false_iff_ne]; exact h3
                have H3 := Lib.hid h3; clear h3
                go_wp2_with fail
                refine (ref_first_any _ _ hx0 hx1).mono ?_
                rintro e w' ⟨rfl, rfl⟩
                rw [HF1.out]
                by_cases hz : k = 0
                · subst hz
                  have HF := Lib.hid (HO.out (HS.out HN.out))
                  go_wp2
                  go_ret2
                  exact ⟨by rw [← HF.out]; rfl, rfl⟩
                · by_cases hm : 255 < k
                  · have HF := Lib.hid (HO.out (HS.out HN.out))
                    rw [if_pos (.inr hm)] at HF
                    have hzb : ((k : Int) == 0) = false := by simp [hz]
                    have HZ := Lib.hid hz; clear hz
                    go_wp2
                    go_ret2
                    exact ⟨by rw [← HF.out]; rfl, rfl⟩
                  · have HF := Lib.hid (HO.out (HS.out HN.out))
                    rw [if_neg (by omega)] at HF
                    have hzb : ((k : Int) == 0) = false := by simp [hz]
                    have HZ := Lib.hid hz; clear hz
                    go_wp2
                    go_ret2
                    exact ⟨by rw [← HF.out]; rfl, rfl⟩
      · have HN := Lib.hid ((okB_iff k _).2 (.inl hf))
        have HF1 := Lib.hid hf; clear hf
        go_wp2_with fail
        refine (ref_first_any _ _ hx0 hx1).mono ?_
        rintro e w' ⟨rfl, rfl⟩
        rw [HF1.out]
        go_wp2
        go_round
        case rel => exact ⟨k + 1, by omega, by go_num, HM.out HN.out⟩
        case measure => simp [intOf]; omega
    · have hpe : p + k = s.size := by omega
      have HL := Lib.hid (HE.out k hk HD.out (.inl hpe))
      have HP := Lib.hid hpe; clear hpe HE
      by_cases hz : k = 0
      · subst hz
        have HF := Lib.hid (HO.out HL.out)
        go_wp2
        go_ret2
        exact ⟨by rw [← HF.out]; rfl, rfl⟩
      · by_cases hm : 255 < k
        · have HF := Lib.hid (HO.out HL.out)
          rw [if_pos (.inr hm)] at HF
          have hzb : ((k : Int) == 0) = false := by simp [hz]
          have HZ := Lib.hid hz; clear hz
          go_wp2
          go_ret2
          exact ⟨by rw [← HF.out]; rfl, rfl⟩
        · have HF := Lib.hid (HO.out HL.out)
          rw [if_neg (by omega)] at HF
          have hzb : ((k : Int) == 0) = false := by simp [hz]
          have HZ := Lib.hid hz; clear hz
          go_wp2
          go_ret2
          exact ⟨by rw [← HF.out]; rfl, rfl⟩

theorem ref_scan_any (s : ByteArray) (p : Int) (w : World) (hs : s.size ≤ 1000000) :
    Calls Try.prog 9 #[.string s, .int .i64 p] w fun e w' => e = .returned (scanOut s.data.toList p) ∧ w = w' := by
  by_cases ho : p < 0 ∨ (s.size : Int) < p
  · have HF : Hid (scanOut s.data.toList p = .tuple #[.int .i64 0, .int .i64 1]) := by unfold Hid scanOut; rw [nscan_arg (by rw [← Lib.size_eq]; exact ho)]
    by_cases h0 : p < 0
    · go_enter Try.func9, Try.ntmps9
      go_wp2
      go_ret2
      exact ⟨by rw [HF.out]; rfl, rfl⟩
    · have h1 : (s.size : Int) < p := by omega
      clear ho
      go_enter Try.func9, Try.ntmps9
      go_wp2
      go_ret2
      exact ⟨by rw [HF.out]; rfl, rfl⟩
  · obtain ⟨k, rfl⟩ := Int.eq_ofNat_of_zero_le (show 0 ≤ p by omega)
    exact ref_scan_in s k w hs (by omega)

set_option maxRecDepth 100000 in
set_option maxHeartbeats 800000 in
theorem ref_good_any (s : ByteArray) (w : World) (hs : s.size ≤ 1000000) :
    Calls Try.prog 11 #[.string s] w fun e w' => e = .returned (.bool (isName s.data.toList)) ∧ w = w' := by
  have HW := Lib.hid (nscan_whole s.data.toList)
  have LS := Lib.hid (Lib.size_eq s)
  go_enter Try.func11, Try.ntmps11
  go_wp2_with fail
  refine (ref_scan_any _ 0 _ hs).mono ?_
  unfold scanOut
  obtain ⟨⟨n, e⟩, hr⟩ : ∃ t, nscan s.data.toList 0 = t := ⟨_, rfl⟩
  rw [hr] at HW ⊢
  clear hr
  rintro e' w' ⟨rfl, rfl⟩
  by_cases he : e = 0
  · have hb : (e == 0) = true := by simp [he]
    have HE := Lib.hid he; clear he
    by_cases hn : n = s.size
    · have hb2 : (n == (s.size : Int)) = true := by simp [hn]
      have HF : Hid (isName s.data.toList = true) := HW.out.1 ⟨HE.out, by rw [← LS.out]; exact hn⟩
      have HN := Lib.hid hn; clear hn
      go_wp2
      go_ret
      exact ⟨by rw [HF.out]; rfl, rfl⟩
    · have hb2 : (n == (s.size : Int)) = false := by simp [hn]
      have HF : Hid (isName s.data.toList = false) := by
        unfold Hid; rw [← Bool.not_eq_true, ← HW.out, ← LS.out]; exact fun h => hn h.2
      have HN := Lib.hid hn; clear hn
      go_wp2
      go_ret
      exact ⟨by rw [HF.out]; rfl, rfl⟩
  · have hb : (e == 0) = false := by simp [he]
    have HF : Hid (isName s.data.toList = false) := by
      unfold Hid; rw [← Bool.not_eq_true, ← HW.out]; exact fun h => he h.1
    have HE := Lib.hid he; clear he
    go_wp2
    go_ret
    exact ⟨by rw [HF.out]; rfl, rfl⟩
end Go.Proofs.Ytpgfolfhfhfdhaa.Name
