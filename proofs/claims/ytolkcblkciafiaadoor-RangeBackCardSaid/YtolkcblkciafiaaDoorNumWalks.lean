/-
  The number of digits if it is held (num.number), and num.Parse, for any bytes in memory. Condition: the slice reads as the list of bytes l.
-/
import Derived.Test.YtolkcblkciafiaaDoorNumDigits
namespace Go.Proofs.YtolkcblkciafiaaDoor.Num
open Go.RowKit
/-- What number answers for digits. -/
def numOut (l : List UInt8) : Value := if val l ≤ maxField then .tuple #[.int .u64 (val l), .bool true] else .tuple #[.int .u64 0, .bool false]
theorem numOut_yes {l : List UInt8} (h : val l ≤ maxField) : numOut l = .tuple #[.int .u64 (val l), .bool true] := by unfold numOut; rw [if_pos h]
theorem numOut_no {l : List UInt8} (h : ¬ val l ≤ maxField) : numOut l = .tuple #[.int .u64 0, .bool false] := by unfold numOut; rw [if_neg h]
def NumJ (w : World) (A : Option Addr) (n c : Nat) (l : List UInt8) (a' : Act) (w' : World) : Prop :=
  w = w' ∧ ∃ (k : Nat) (v : Int) (u5 u6 u7 u8 u9 u10 u11 u12 u13 u14 u15 u16 u17 u18 u19 u20 u21 u22 u23 u24 u25 u26 u27 : Value), k ≤ n ∧ v = (val (l.take k) : Int) ∧ v ≤ 9223372036854775807 ∧ a' = { tmps := #[.slice A n c, undef, .int .u64 v, .bool false, .int .i64 k, u5, u6, u7, u8, u9, u10, u11, u12, u13, u14, u15, u16, u17, u18, u19, u20, u21, u22, u23, u24, u25, u26, u27], defers := [] }
def NumM (n : Nat) (a' : Act) (_ : World) : Nat := n - (intOf (a'.tmps.getD 4 undef)).toNat

set_option maxRecDepth 100000 in
set_option maxHeartbeats 400000 in
theorem number_any (A : Option Addr) (n c : Nat) (l : List UInt8) (w : World) (h : Row w A n l) (hd : AllDig l) :
    Calls Tryd.prog 86 #[.slice A n c] w fun e w' => e = .returned (numOut l) ∧ w = w' := by
  obtain ⟨hl, hm, hc⟩ := h
  unfold maxLen at hm
  have HC := Lib.hid hc; clear hc
  have HL := Lib.hid hl; clear hl
  have HD := Lib.hid hd; clear hd
  go_enter Tryd.func86, Tryd.ntmps86
  go_wp2
  refine wp_scope_back 0 (NumJ w A n c l) (NumM n) rfl ?_ ?_
  · rintro a' w' ⟨rfl, k, v, u5, u6, u7, u8, u9, u10, u11, u12, u13, u14, u15, u16, u17, u18, u19, u20, u21, u22, u23, u24, u25, u26, u27, hk, hv, hv2, rfl⟩
    have hv1 : 0 ≤ v := by rw [hv]; exact Int.natCast_nonneg _
    have HV := Lib.hid hv; clear hv
    by_cases hlt : k < n
    · obtain ⟨b, o, rfl, hb, hcell⟩ := HC.out (by omega)
      have hx := hcell k hlt
      clear hcell HC
      have hbd := (isDig_at l k).1 (allDig_getD HD.out (by rw [HL.out]; exact hlt))
      obtain ⟨x, hxe⟩ : ∃ x, x = byteAt l k := ⟨_, rfl⟩
      rw [← hxe] at hx hbd
      have HX := Lib.hid hxe; clear hxe
      obtain ⟨h1, h2⟩ := hbd
      have hne : ((k : Int) == (n : Int)) = false := by simp; omega
      have HT : Hid ((val (l.take (k + 1)) : Int) = 10 * v + (x - 48)) := by
        unfold Hid
        rw [take_snoc l k (by rw [HL.out]; exact hlt), val_snoc, HV.out]
        have := HX.out; unfold byteAt at this; omega
      by_cases hg : v ≤ (9223372036854775807 - (x - 48)) / 10
      · go_wp2
        go_step3
        rw [show ((k : Int) + 1) = ((k + 1 : Nat) : Int) from rfl]
        exact ⟨rfl, ⟨rfl, k + 1, _, _, _, _, _, _, _, _, _, _, _, _, _, _, _, _, _, _, _, _, _, _, _, _, by omega, HT.out.symm, by omega, rfl⟩, by simp [NumM, intOf]; omega⟩
      · have HN : Hid (¬ val l ≤ maxField) := by
          have h3 := val_take_le l (k + 1)
          have h4 := HT.out
          unfold Hid maxField; omega
        go_wp2
        simp only [Exit.jump]
        go_ret2
        exact ⟨by rw [numOut_no HN.out]; rfl, rfl⟩
    · obtain rfl : k = n := by omega
      have HV2 : Hid (v = (val l : Int)) := by have := HV.out; rw [List.take_of_length_le (by rw [HL.out]; exact Nat.le_refl _)] at this; exact this
      have HN : Hid (val l ≤ maxField) := by have := HV2.out; unfold Hid maxField; omega
      have hne : ((k : Int) == (k : Int)) = true := by simp
      go_wp2
      simp only [Exit.jump]
      go_ret2
      exact ⟨by rw [numOut_yes HN.out, ← HV2.out]; rfl, rfl⟩
  · intro HP
    go_wp2
    go_step3
    rename_i hK
    exact hK _ _ (HP.out _ _ ⟨rfl, 0, 0, _, _, _, _, _, _, _, _, _, _, _, _, _, _, _, _, _, _, _, _, _, _, _, by omega, by simp [val, valFrom], by omega, rfl⟩)

/-- What Parse answers, as a value. -/
def parseOut (l : List UInt8) (p : Int) : Value := .tuple #[.int .u64 ((parse l p).1 : Int), .int .i64 ((parse l p).2.1 : Int), .int .i64 ((parse l p).2.2 : Int)]

set_option maxRecDepth 100000 in
set_option maxHeartbeats 400000 in
theorem parse_out (A : Option Addr) (n c : Nat) (l : List UInt8) (p : Int) (w : World) (h : Row w A n l) (ho : p < 0 ∨ (n : Int) < p) :
    Calls Tryd.prog 79 #[.slice A n c, .int .i64 p] w fun e w' => e = .returned (parseOut l p) ∧ w = w' := by
  have HE : Hid (parse l p = (0, 0, 1)) := by
    unfold Hid parse; rw [if_pos (by rw [h.1]; exact ho)]
  clear h
  by_cases h0 : p < 0
  · go_enter Tryd.func79, Tryd.ntmps79
    go_wp2
    go_ret3
    exact ⟨by unfold parseOut; rw [HE.out]; rfl, rfl⟩
  · have h1 : (n : Int) < p := by omega
    clear ho
    go_enter Tryd.func79, Tryd.ntmps79
    go_wp2
    go_ret3
    exact ⟨by unfold parseOut; rw [HE.out]; rfl, rfl⟩

/-- The digits at a place, and what Parse answers of them. -/
theorem parse_at (l : List UInt8) (p : Nat) (hp : p ≤ l.length) (d : List UInt8) (hd : (l.drop p).take (run (l.drop p)) = d) :
    parse l p = if d.length = 0 then (0, 0, 2) else if pad d = true then (0, 0, 3) else if maxField < val d then (0, 0, 4) else (val d, d.length, 0) := by
  subst hd; unfold parse; rw [if_neg (by omega), Int.toNat_natCast]

set_option maxRecDepth 100000 in
set_option maxHeartbeats 400000 in
theorem parse_in (A : Option Addr) (n c : Nat) (l : List UInt8) (p : Nat) (w : World) (h : Row w A n l) (hc : n ≤ c) (hp : p ≤ n) :
    Calls Tryd.prog 79 #[.slice A n c, .int .i64 p] w fun e w' => e = .returned (parseOut l p) ∧ w = w' := by
  have hm := h.2.1
  unfold maxLen at hm
  have hp0 : ¬ (p : Int) < 0 := by omega
  have hp1 : ¬ n < p := by omega
  by_cases hcp : c = p
  · have hn : n = p := by omega
    subst hcp
    subst hn
    have HE : Hid (parse l n = (0, 0, 2)) := by
      have e := parse_at l n (by rw [h.1]; exact Nat.le_refl _) [] (by rw [List.drop_eq_nil_of_le (by rw [h.1]; exact Nat.le_refl _)]; rfl)
      exact e.trans (if_pos rfl)
    have R1 : Row w A 0 [] := ⟨rfl, by omega, fun h0 => by omega⟩
    have H1 := Lib.hid R1
    clear h R1 hc hp
    go_enter Tryd.func79, Tryd.ntmps79
    go_wp2_with fail
    refine (digits_any _ _ _ _ _ H1.out).mono ?_
    rintro e w' ⟨rfl, rfl⟩
    rw [show run [] = 0 from rfl]
    go_wp2
    go_ret3
    exact ⟨by unfold parseOut; rw [HE.out]; rfl, rfl⟩
  · obtain ⟨m, hM⟩ : ∃ m, run (l.drop p) = m := ⟨_, rfl⟩
    have hpm : p + m ≤ n := by have := run_le (l.drop p); rw [hM, List.length_drop, h.1] at this; omega
    have R1 : Row w (A.map (fun x => x.add p)) (n - p) (l.drop p) := by
      have := h.piece (A' := A.map (fun x => x.add p)) p (n - p) (by omega) (fun _ b o e => map_add p A b o e)
      rwa [List.take_of_length_le (by rw [List.length_drop, h.1]; exact Nat.le_refl _)] at this
    obtain ⟨d, hd⟩ : ∃ d, (l.drop p).take m = d := ⟨_, rfl⟩
    have R2 : Row w (A.map (fun x => x.add p)) m d := by
      have := h.piece (A' := A.map (fun x => x.add p)) p m hpm (fun _ b o e => map_add p A b o e)
      rwa [hd] at this
    have HAD : Hid (AllDig d) := by have := allDig_take_run (l.drop p); rw [hM, hd] at this; exact this
    have HE : Hid (parse l p = if d.length = 0 then (0, 0, 2) else if pad d = true then (0, 0, 3) else if maxField < val d then (0, 0, 4) else (val d, d.length, 0)) :=
      parse_at l p (by rw [h.1]; exact hp) d (by rw [hM]; exact hd)
    have hdl := R2.1
    rw [hdl] at HE
    have H1 := Lib.hid R1
    have H2 := Lib.hid R2
    have HM := Lib.hid hM
    clear h R1 R2 hM hd hdl
    go_enter Tryd.func79, Tryd.ntmps79
    go_wp2_with fail
    refine (digits_any _ _ _ _ _ H1.out).mono ?_
    rintro e w' ⟨rfl, rfl⟩
    rw [HM.out]
    by_cases h0 : m = 0
    · have HF : Hid (parse l p = (0, 0, 2)) := by have := HE.out; rw [if_pos h0] at this; exact this
      subst h0
      go_wp2
      go_ret3
      exact ⟨by unfold parseOut; rw [HF.out]; rfl, rfl⟩
    · have hb : ((m : Int) == 0) = false := by simp [h0]
      have HE2 : Hid (parse l p = if pad d = true then (0, 0, 3) else if maxField < val d then (0, 0, 4) else (val d, m, 0)) := by have := HE.out; rw [if_neg h0] at this; exact this
      clear HE
      go_wp2_with fail
      refine (padded_any _ _ _ _ _ H2.out).mono ?_
      rintro e w' ⟨rfl, rfl⟩
      by_cases hpd : pad d = true
      · have HF : Hid (parse l p = (0, 0, 3)) := by have := HE2.out; rw [if_pos hpd] at this; exact this
        rw [hpd]
        go_wp2
        go_ret3
        exact ⟨by unfold parseOut; rw [HF.out]; rfl, rfl⟩
      · have HE3 : Hid (parse l p = if maxField < val d then (0, 0, 4) else (val d, m, 0)) := by have := HE2.out; rw [if_neg hpd] at this; exact this
        rw [show pad d = false from by simpa using hpd]
        clear hpd HE2
        go_wp2_with fail
        refine (number_any _ _ _ _ _ H2.out HAD.out).mono ?_
        rintro e w' ⟨rfl, rfl⟩
        by_cases hv : val d ≤ maxField
        · have HF : Hid (parse l p = (val d, m, 0)) := by have := HE3.out; rw [if_neg (by omega)] at this; exact this
          rw [numOut_yes hv]
          have HV := Lib.hid hv; clear hv
          go_wp2
          go_ret3
          exact ⟨by unfold parseOut; rw [HF.out]; rfl, rfl⟩
        · have HF : Hid (parse l p = (0, 0, 4)) := by have := HE3.out; rw [if_pos (by omega)] at this; exact this
          rw [numOut_no hv]
          have HV := Lib.hid hv; clear hv
          go_wp2
          go_ret3
          exact ⟨by unfold parseOut; rw [HF.out]; rfl, rfl⟩

/-- Parse, at any place. -/
theorem parse_any (A : Option Addr) (n c : Nat) (l : List UInt8) (p : Int) (w : World) (h : Row w A n l) (hc : n ≤ c) :
    Calls Tryd.prog 79 #[.slice A n c, .int .i64 p] w fun e w' => e = .returned (parseOut l p) ∧ w = w' := by
  by_cases ho : p < 0 ∨ (n : Int) < p
  · exact parse_out A n c l p w h ho
  · obtain ⟨k, rfl⟩ := Int.eq_ofNat_of_zero_le (show 0 ≤ p by omega)
    exact parse_in A n c l k w h hc (by omega)
end Go.Proofs.YtolkcblkciafiaaDoor.Num
