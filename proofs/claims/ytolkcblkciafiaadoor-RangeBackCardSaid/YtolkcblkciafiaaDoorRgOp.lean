/-
  A reader's op, and whether a further part is there (rangeexpr.reader: op, furtherEvery, furtherOne). Conditions: the reader's block holds its bytes and a place within them; the table of ops reads as it is written.
-/
import Derived.Test.YtolkcblkciafiaaDoorRgStep
namespace Go.Proofs.YtolkcblkciafiaaDoor.Range
open Go.RowKit Num Ident Semver

/-- The table of ops reads as it is written. -/
def OpsTab (w : World) : Prop := ∀ i, i < 8 → w.cell? ⟨0, i, none⟩ = some (.string (mk (ops.getD i [])))
theorem OpsTab.keep {w w' : World} (h : OpsTab w) (k : Keep w w') : OpsTab w' := fun i hi => k.cell _ _ _ (h i hi) (.inl fun x e => by cases e)
theorem opFrom_at (s : List UInt8) (k : Nat) (hk : k < 8) : opFrom s (ops.drop k) ((k : Int) + 1) = if stands (ops.getD k []) s = true then ((k : Int) + 1, ops.getD k []) else opFrom s (ops.drop (k + 1)) (((k + 1 : Nat) : Int) + 1) := by
  have e : ops.drop k = ops.getD k [] :: ops.drop (k + 1) := by
    rw [List.drop_eq_getElem_cons (show k < ops.length from hk)]
    simp [List.getD, List.getElem?_eq_getElem (show k < ops.length from hk)]
  rw [e, opFrom]
  rfl
theorem ops_len (k : Nat) : (ops.getD k []).length ≤ 1000 := by
  unfold ops
  match k with
  | 0 | 1 | 2 | 3 | 4 | 5 | 6 | 7 => decide
  | k + 8 => exact Nat.zero_le _
def OpJ (w : World) (b : Nat) (A : Option Addr) (n c p : Nat) (s : List UInt8) (i : Value) (W : World) : Prop :=
  ∃ k : Nat, k ≤ 8 ∧ i = .int .i64 (k : Int) ∧ opFrom s (ops.drop k) ((k : Int) + 1) = opOf s ∧ Rd W b A n c p ∧ Moved b w W
set_option maxRecDepth 100000 in
set_option maxHeartbeats 3200000 in
theorem op_any (b : Nat) (A : Option Addr) (n c p : Nat) (l s : List UInt8) (w : World) (hR : Rd w b A n c p) (hr : Row w A n l) (hc : n ≤ c) (hs : Pl l p s) (ht : OpsTab w) :
    Calls Tryd.prog 44 #[.pointer (some ⟨b, 0, none⟩)] w fun e w' => e = .returned (.tuple #[.int .i64 (opOf s).1, .string (mk (opOf s).2)]) ∧ Rd w' b A n c p ∧ Moved b w w' := by
  have HR := Lib.hid hR
  have HRow := Lib.hid hr
  have HP := Lib.hid hs
  have HT := Lib.hid ht
  clear hR hr hs ht
  go_enter Tryd.func44, Tryd.ntmps44
  go_wp2
  go_loopw [5] (fun i W => OpJ w b A n c p s i W) (fun i _ => 8 - (intOf i).toNat)
  case atStart => exact ⟨0, by omega, rfl, rfl, HR.out, Moved.refl _ _⟩
  case round =>
    obtain ⟨k, hk, rfl, hop, hR1, hM1⟩ := hrel
    have HR1 := Lib.hid hR1
    have HM1 := Lib.hid hM1
    have HOp := Lib.hid hop
    have HK := Lib.hid (HR.out.keep hM1)
    have HT1 := Lib.hid (HT.out.keep HK.out)
    have HRow1 := Lib.hid (row_keep HRow.out HK.out)
    clear hR1 hM1 hop
    by_cases hlt : k < 8
    · have hx := HT1.out k hlt
      have HSt := Lib.hid (opFrom_at s k hlt)
      have HC := Lib.hid (fun W (h1 : Rd W b A n c p) (h2 : Row W A n l) => stands_any b A n c p l s (ops.getD k []) W h1 h2 hc HP.out (ops_len k))
      generalize ops.getD k [] = t at hx HSt HC
      go_wp2_with fail
      refine (HC.out _ HR1.out HRow1.out).mono ?_
      rintro e w2 ⟨rfl, hR2, hM2⟩
      have HR2 := Lib.hid hR2
      have hx2 : w2.cell? ⟨0, k, none⟩ = some (.string (mk t)) := (HR1.out.keep hM2).cell _ _ _ hx (.inl fun x e => by cases e)
      have HM2 := Lib.hid (HM1.out.trans hM2)
      clear hR2 hM2
      cases hst : stands t s with
      | true =>
        have HF : Hid (opOf s = (1 + (k : Int), t)) := by
          have := HSt.out
          rw [hst, if_pos rfl] at this
          rw [Int.add_comm]; exact HOp.out.symm.trans this
        clear HSt hx
        go_wp2_with fail
        go_quiet (fail)
        go_wp2
        go_ret2
        rw [HF.out]
        exact ⟨rfl, HR2.out.drewN _, HM2.out.drewN _⟩
      | false =>
        have HF : Hid (opFrom s (ops.drop (k + 1)) (((k + 1 : Nat) : Int) + 1) = opOf s) := by
          have := HSt.out
          rw [hst, if_neg (by simp)] at this
          exact this.symm.trans HOp.out
        clear HSt hx
        go_wp2
        exact ⟨⟨k + 1, by omega, by go_num, HF.out, HR2.out, HM2.out⟩, by simp [intOf]; omega⟩
    · have HF : Hid (opOf s = (5, [])) := by
        have h8 : k = 8 := by omega
        have := HOp.out
        rw [h8] at this
        exact this.symm
      have hk8 : k = 8 := by omega
      subst hk8
      go_wp2
      go_ret2
      rw [HF.out]
      exact ⟨rfl, HR1.out, HM1.out⟩
/-- What a look for a further part leaves. -/
def FurPost (b : Nat) (A : Option Addr) (n c p : Nat) (l : List UInt8) (w : World) (f : Option (List UInt8)) (e : Ending) (w' : World) : Prop :=
  Moved b w w' ∧ match f with
    | some s' => e = .returned (.bool true) ∧ ∃ q, Pl l q s' ∧ Rd w' b A n c q
    | none => e = .returned (.bool false) ∧ Rd w' b A n c p
set_option maxRecDepth 100000 in
set_option maxHeartbeats 1600000 in
theorem furE_any (b : Nat) (A : Option Addr) (n c p : Nat) (l s : List UInt8) (w : World) (hR : Rd w b A n c p) (hr : Row w A n l) (hc : n ≤ c) (hs : Pl l p s) :
    Calls Tryd.prog 31 #[.pointer (some ⟨b, 0, none⟩)] w (FurPost b A n c p l w (furE s)) := by
  have HR := Lib.hid hR
  have HRow := Lib.hid hr
  have HP := Lib.hid hs
  have HFU : Hid (furE s = if stands [124, 124] s = true then some (blanks (s.drop 2)) else none) := rfl
  have HLen := Lib.hid (fun h => stands_len (t := [124, 124]) (s := s) h)
  clear hR hr hs
  go_enter Tryd.func31, Tryd.ntmps31
  go_wp2_with fail
  refine (stands_any b A n c p l s [124, 124] _ HR.out HRow.out hc HP.out (by decide)).mono ?_
  rintro e w1 ⟨rfl, hR1, hM1⟩
  have HR1 := Lib.hid hR1
  have HM1 := Lib.hid hM1
  have HRow1 := Lib.hid (row_keep HRow.out (HR.out.keep hM1))
  clear hR1 hM1
  cases hst : stands [124, 124] s with
  | true =>
    rw [hst] at HFU
    have HF : Hid (furE s = some (blanks (s.drop 2))) := HFU.out
    have h2 := HLen.out hst
    rw [HP.out.len, HRow.out.1] at h2
    have hpn := HP.out.le
    rw [HRow.out.1] at hpn
    have hk : p + 2 ≤ n := by simp at h2; omega
    clear h2
    go_wp2_with fail
    refine (pass_any b A n c p 2 l s _ HR1.out HRow1.out HP.out hk).mono ?_
    rintro e w2 ⟨rfl, q, hq, hR2, hM2⟩
    go_wp2
    go_ret
    rw [HF.out]
    exact ⟨HM1.out.trans hM2, rfl, q, hq, hR2⟩
  | false =>
    rw [hst] at HFU
    have HF : Hid (furE s = none) := HFU.out
    go_wp2
    go_ret
    rw [HF.out]
    exact ⟨HM1.out, rfl, HR1.out⟩
set_option maxRecDepth 100000 in
set_option maxHeartbeats 1600000 in
theorem furO_any (b : Nat) (A : Option Addr) (n c p : Nat) (l s : List UInt8) (w : World) (hR : Rd w b A n c p) (hr : Row w A n l) (hc : n ≤ c) (hs : Pl l p s) :
    Calls Tryd.prog 38 #[.pointer (some ⟨b, 0, none⟩)] w (FurPost b A n c p l w (furO s)) := by
  have HR := Lib.hid hR
  have HRow := Lib.hid hr
  have HP := Lib.hid hs
  have HFU : Hid (furO s = if stands [44] s = true then some (blanks (s.drop 1)) else if oneOf starts s = true then some s else none) := rfl
  have HLen := Lib.hid (fun h => stands_len (t := [44]) (s := s) h)
  clear hR hr hs
  go_enter Tryd.func38, Tryd.ntmps38
  go_wp2_with fail
  refine (stands_any b A n c p l s [44] _ HR.out HRow.out hc HP.out (by decide)).mono ?_
  rintro e w1 ⟨rfl, hR1, hM1⟩
  have HR1 := Lib.hid hR1
  have HM1 := Lib.hid hM1
  have HRow1 := Lib.hid (row_keep HRow.out (HR.out.keep hM1))
  clear hR1 hM1
  cases hst : stands [44] s with
  | true =>
    rw [hst] at HFU
    have HF : Hid (furO s = some (blanks (s.drop 1))) := HFU.out
    have h2 := HLen.out hst
    rw [HP.out.len, HRow.out.1] at h2
    have hpn := HP.out.le
    rw [HRow.out.1] at hpn
    have hk : p + 1 ≤ n := by simp at h2; omega
    clear h2
    go_wp2_with fail
    refine (pass_any b A n c p 1 l s _ HR1.out HRow1.out HP.out hk).mono ?_
    rintro e w2 ⟨rfl, q, hq, hR2, hM2⟩
    go_wp2
    go_ret
    rw [HF.out]
    exact ⟨HM1.out.trans hM2, rfl, q, hq, hR2⟩
  | false =>
    rw [hst] at HFU
    have HFU2 : Hid (furO s = if oneOf starts s = true then some s else none) := HFU.out
    clear HFU
    go_wp2_with fail
    refine (oneOf_any b A n c p l s starts _ HR1.out HRow1.out HP.out).mono ?_
    rintro e w2 ⟨rfl, hR2, hM2⟩
    have HM2 := Lib.hid (HM1.out.trans hM2)
    have HR2 := Lib.hid hR2
    clear hR2 hM2
    generalize oneOf starts s = x at HFU2
    go_wp2
    go_ret
    rw [HFU2.out]
    cases x with
    | true => exact ⟨HM2.out, rfl, p, HP.out, HR2.out⟩
    | false => exact ⟨HM2.out, rfl, HR2.out⟩
end Go.Proofs.YtolkcblkciafiaaDoor.Range
