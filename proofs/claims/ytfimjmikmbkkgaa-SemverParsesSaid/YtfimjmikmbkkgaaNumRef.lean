/-
  What the document's own parser of numerals answers (ferruleref01.Parse), for any text: the same as the program's. Condition: the text has at most 600 bytes.
-/
import Derived.Test.YtfimjmikmbkkgaaNumWalks
import Derived.Test.YtfimjmikmbkkgaaNumOrder
import Derived.WalkSpells
import Derived.Deep.CutBlock
import Derived.Deep.DeepCutAuto
namespace Go.Proofs.Ytfimjmikmbkkgaa.Num
open Go.RowKit

/-- What the document's Parse answers, as a value. -/
def refOut (l : List UInt8) (p : Int) : Value := .agg #[.int .u64 ((parse l p).1 : Int), .int .i64 ((parse l p).2.1 : Int), .int .i64 ((parse l p).2.2 : Int)]

def big (d : List UInt8) : Bool := decide (maxField < val d)
def Cut1 (w : World) (s : ByteArray) (p : Nat) (x : Value) (wx : World) : Prop :=
  ∃ k : Nat, p ≤ k ∧ k ≤ s.size ∧ x = .int .i64 k ∧ run (s.data.toList.drop p) = k - p ∧ wx = w.alloc (.cells #[.int .u64 0, .int .i64 0, .int .i64 0] 46)

theorem run_from (l : List UInt8) (p k : Nat) (hp : p ≤ k) (hk : k ≤ l.length) (h : ∀ j, p ≤ j → j < k → isDig (l.getD j 0) = true) (he : k = l.length ∨ isDig (l.getD k 0) = false) : run (l.drop p) = k - p := by
  refine run_stop _ _ (by rw [List.length_drop]; omega) (fun j hj => ?_) ?_
  · have := h (p + j) (by omega) (by omega)
    simpa [List.getD] using this
  · rcases he with he | he
    · left; rw [List.length_drop]; omega
    · right
      have e : p + (k - p) = k := by omega
      simpa [List.getD, e] using he

set_option maxRecDepth 100000 in
set_option maxHeartbeats 1600000 in
theorem ref_parse_in (s : ByteArray) (p : Nat) (w : World) (hs : s.size ≤ 600) (hp : p ≤ s.size) :
    Calls Try.prog 13 #[.string s, .int .i64 p] w fun e w' => e = .returned (refOut s.data.toList p) ∧ Below w.heap.size w w' := by
  have hp0 : ¬ (p : Int) < 0 := by omega
  have hp1 : ¬ s.size < p := by omega
  go_enter Try.func13, Try.ntmps13
  go_upto_block 0 with (fail)
  go_cut [5] (fun x wx => Cut1 w s p x wx)
  case first =>
    go_wp2_with fail
    go_loop [5] (fun t => ∃ k : Nat, p ≤ k ∧ k ≤ s.size ∧ t = .int .i64 k ∧ Hid (∀ j, p ≤ j → j < k → isDig (s.data.toList.getD j 0) = true)) (fun t => s.size - (intOf t).toNat)
    case atStart => exact ⟨p, Nat.le_refl _, hp, rfl, fun j h1 h2 => by omega⟩
    case round =>
      obtain ⟨k, hk1, hk2, rfl, HD⟩ := hrel
      by_cases hlt : k < s.size
      · have HX := Lib.hid (at_text s k hlt)
        have HI := Lib.hid (isDig_at s.data.toList k)
        by_cases h1 : 48 ≤ (s[k].toNat : Int)
        · by_cases h2 : (s[k].toNat : Int) ≤ 57
          · go_wp2
            go_round
            case rel =>
              refine ⟨k + 1, by omega, by omega, by go_num, fun j hj1 hj2 => ?_⟩
              rcases Nat.lt_or_ge j k with hj | hj
              · exact HD.out j hj1 hj
              · obtain rfl : j = k := by omega
                exact HI.out.2 (by rw [← HX.out]; exact ⟨h1, h2⟩)
            case measure => simp [intOf]; omega
          · go_wp2
            go_meet
            refine ⟨k, hk1, hk2, rfl, run_from _ p k hk1 (by rw [← Lib.size_eq]; exact hk2) HD.out (.inr ?_), rfl⟩
            rw [← Bool.not_eq_true, HI.out, ← HX.out]; omega
        · go_wp2
          go_meet
          refine ⟨k, hk1, hk2, rfl, run_from _ p k hk1 (by rw [← Lib.size_eq]; exact hk2) HD.out (.inr ?_), rfl⟩
          rw [← Bool.not_eq_true, HI.out, ← HX.out]; omega
      · go_wp2
        go_meet
        exact ⟨k, hk1, hk2, rfl, run_from _ p k hk1 (by rw [← Lib.size_eq]; exact hk2) HD.out (.inl (by rw [← Lib.size_eq]; omega)), rfl⟩
  case rest =>
    obtain ⟨k, hk1, hk2, rfl, hrun, rfl⟩ := hcut
    have HRUN := Lib.hid hrun; clear hrun
    go_upto_if 42 with (fail)
    obtain ⟨d, hd⟩ : ∃ d, (s.data.toList.drop p).take (k - p) = d := ⟨_, rfl⟩
    have hdt := Lib.extract_data s p k
    rw [hd] at hdt
    have HE : Hid (parse s.data.toList p = if d.length = 0 then (0, 0, 2) else if pad d = true then (0, 0, 3) else if maxField < val d then (0, 0, 4) else (val d, d.length, 0)) :=
      parse_at s.data.toList p (by rw [← Lib.size_eq]; exact hp) d (by rw [HRUN.out]; exact hd)
    have HAD : Hid (AllDig d) := by have := allDig_take_run (s.data.toList.drop p); rw [HRUN.out, hd] at this; exact this
    clear HRUN hd
    have hsz : (s.extract p k).size ≤ 600 := by simp; omega
    generalize s.extract p k = t at hdt hsz ⊢
    have hdl : d.length = t.size := by rw [← hdt, Lib.size_eq]
    have HDT := Lib.hid hdt; clear hdt
    have HDL := Lib.hid hdl; clear hdl
    by_cases hz : t.size = 0
    · have HF : Hid (parse s.data.toList p = (0, 0, 2)) := by have := HE.out; rw [if_pos (by rw [HDL.out]; exact hz)] at this; exact this
      have hem : t.toList.isEmpty = true := by rw [Lib.toList_data, HDT.out, List.isEmpty_iff_length_eq_zero, HDL.out]; exact hz
      have HZ := Lib.hid hz; clear hz HE
      rw [hem]
      go_wp2
      exact bodyPost_ret (v := refOut s.data.toList p) (by unfold refOut; rw [HF.out]; simp [results, Try.results13, go_sem]) rfl ⟨rfl, ((Below.refl _ _).alloc (Nat.le_refl _) _)⟩
    · have hem : t.toList.isEmpty = false := by
        rw [Lib.toList_data, HDT.out, ← Bool.not_eq_true, List.isEmpty_iff_length_eq_zero, HDL.out]; exact hz
      have HE2 : Hid (parse s.data.toList p = if pad d = true then (0, 0, 3) else if maxField < val d then (0, 0, 4) else (val d, t.size, 0)) := by
        have := HE.out; rw [if_neg (by rw [HDL.out]; exact hz), HDL.out] at this; exact this
      clear HE
      rw [hem]
      go_upto_region 9 with (fail)
      go_cut [51] (fun x wx => x = .bool (pad d) ∧ wx = w.alloc (.cells #[.int .u64 0, .int .i64 0, .int .i64 0] 46))
      case first =>
        by_cases h1 : 1 < t.size
        · have HP : Hid (∀ h0 : 0 < t.size, pad d = ((t[0].toNat : Int) == 48)) := by
            intro h0
            have e := at_text t 0 h0
            rw [HDT.out] at e
            unfold byteAt at e
            rw [Bool.eq_iff_iff, pad_iff, beq_iff_eq, HDL.out]
            exact ⟨fun h => by omega, fun h => ⟨h1, by omega⟩⟩
          go_wp2
          go_meet
          exact ⟨by rw [HP.out (by omega)], rfl⟩
        · have HF : Hid (pad d = false) := (pad_no d).2 fun hh => h1 (by rw [← HDL.out]; exact hh.1)
          go_wp2
          go_meet
          exact ⟨by rw [HF.out], rfl⟩
      case rest =>
        obtain ⟨rfl, rfl⟩ := hcut
        by_cases hpd : pad d = true
        · have HF : Hid (parse s.data.toList p = (0, 0, 3)) := by have := HE2.out; rw [if_pos hpd] at this; exact this
          rw [hpd]
          clear hpd HE2
          go_wp2
          exact bodyPost_ret (v := refOut s.data.toList p) (by unfold refOut; rw [HF.out]; simp [results, Try.results13, go_sem]) rfl ⟨rfl, ((Below.refl _ _).alloc (Nat.le_refl _) _)⟩
        · have hpf : pad d = false := by simpa using hpd
          have HE3 : Hid (parse s.data.toList p = if maxField < val d then (0, 0, 4) else (val d, t.size, 0)) := by have := HE2.out; rw [if_neg hpd] at this; exact this
          have HPF := Lib.hid hpf
          rw [hpf]
          clear hpd hpf HE2
          go_upto_region 11 with (fail)
          go_cut [64] (fun x wx => x = .bool (big d) ∧ wx = w.alloc (.cells #[.int .u64 0, .int .i64 0, .int .i64 0] 46))
          case first =>
            rcases Nat.lt_trichotomy t.size 19 with h19 | h19 | h19
            · have HF : Hid (big d = false) := decide_eq_false (by have := few HAD.out (by rw [HDL.out]; exact h19); omega)
              have hb : ((t.size : Int) == 19) = false := by simp; omega
              go_wp2
              go_meet
              exact ⟨by rw [HF.out]; simp; omega, rfl⟩
            · have HF : Hid (big d = !(Op.bytesLess t.toList maxDigits || t.toList == maxDigits)) := by
                unfold Hid
                have := just HAD.out (by rw [HDL.out]; exact h19)
                rw [Lib.toList_data, HDT.out, Bool.eq_iff_iff, this]
                unfold big; simp
              have hb : ((t.size : Int) == 19) = true := by simp; omega
              have hb2 : ¬ 19 < t.size := by omega
              have H19 := Lib.hid h19; clear h19
              unfold maxDigits at HF
              go_wp2
              go_meet
              refine ⟨?_, rfl⟩
              rw [HF.out, decide_eq_false (show ¬ (19 : Int) < (t.size : Int) by omega), Bool.false_or, Bool.not_or]
            · have HF : Hid (big d = true) := decide_eq_true (many HAD.out HPF.out (by rw [HDL.out]; exact h19))
              go_wp2
              go_meet
              exact ⟨by rw [HF.out], rfl⟩
          case rest =>
            obtain ⟨rfl, rfl⟩ := hcut
            by_cases hbig : big d = true
            · have HF : Hid (parse s.data.toList p = (0, 0, 4)) := by have := HE3.out; rw [if_pos (of_decide_eq_true hbig)] at this; exact this
              rw [hbig]
              clear hbig HE3
              go_wp2
              exact bodyPost_ret (v := refOut s.data.toList p) (by unfold refOut; rw [HF.out]; simp [results, Try.results13, go_sem]) rfl ⟨rfl, ((Below.refl _ _).alloc (Nat.le_refl _) _)⟩
            · have hbf : big d = false := by simpa using hbig
              have hle : val d ≤ maxField := by have := of_decide_eq_false hbf; omega
              have HF : Hid (parse s.data.toList p = (val d, t.size, 0)) := by have := HE3.out; rw [if_neg (by omega)] at this; exact this
              have HLE := Lib.hid hle
              rw [hbf]
              clear hbig hbf HE3 hle
              go_wp2
              go_loop [7, 8] (fun v i => ∃ (k : Nat) (a : Int), k ≤ t.size ∧ i = .int .i64 k ∧ v = .int .u64 a ∧ Hid (a = (val (d.take k) : Int)) ∧ 0 ≤ a ∧ a ≤ 9223372036854775807) (fun _ i => t.size - (intOf i).toNat)
              case atStart => exact ⟨0, 0, by omega, rfl, rfl, by simp [Hid, val, valFrom], by omega, by omega⟩
              case round =>
                obtain ⟨j, a, hj, rfl, rfl, HA, ha0, ha1⟩ := hrel
                by_cases hlt : j < t.size
                · have e := at_text t j hlt
                  rw [HDT.out] at e
                  have hjd : j < d.length := by rw [HDL.out]; exact hlt
                  have hx := (isDig_at d j).1 (allDig_getD HAD.out hjd)
                  rw [← e] at hx
                  obtain ⟨h1, h2⟩ := hx
                  have HT : Hid ((val (d.take (j + 1)) : Int) = 10 * a + ((t[j].toNat : Int) - 48)) := by
                    unfold Hid
                    rw [take_snoc d j hjd, val_snoc, HA.out]
                    unfold byteAt at e; omega
                  have ha2 : 10 * a + ((t[j].toNat : Int) - 48) ≤ 9223372036854775807 := by
                    have h3 := val_take_le d (j + 1)
                    have h4 := HT.out
                    have h5 := HLE.out
                    unfold maxField at h5; omega
                  clear e hjd
                  go_wp2
                  go_round
                  case rel => exact ⟨j + 1, _, by omega, by go_num, rfl, HT.out.symm, by omega, ha2⟩
                  case measure => simp [intOf]; omega
                · obtain rfl : j = t.size := by omega
                  have HV : Hid (a = (val d : Int)) := by
                    have := HA.out; rw [List.take_of_length_le (by rw [HDL.out]; exact Nat.le_refl _)] at this; exact this
                  go_wp2
                  exact bodyPost_ret (v := refOut s.data.toList p) (by unfold refOut; rw [HF.out, ← HV.out]; simp [results, Try.results13, go_sem]) rfl ⟨rfl, ((Below.refl _ _).alloc (Nat.le_refl _) _)⟩
end Go.Proofs.Ytfimjmikmbkkgaa.Num
