/-
  What the theorem of the last text needs of these: RgOp, NumWalks, SvCore, IdByte, IdNumeric, IdWalks. Conditions: as each theorem states.
-/
import Derived.Test.YtgfbflnhjpbceaaGreatDoorAgaB1
import Derived.Test.YtgfbflnhjpbceaaGreatDoorAgaB2
import Derived.Test.YtgfbflnhjpbceaaGreatDoorAgaB4
set_option maxRecDepth 100000
set_option maxHeartbeats 25600000
namespace Go.Proofs.YtgfbflnhjpbceaaGreatDoor.Range
open Go.RowKit Num Ident Semver

def OpsTab (w : World) : Prop := ∀ i, i < 8 → w.cell? ⟨0, i, none⟩ = some (.string (mk (ops.getD i [])))
theorem OpsTab.keep {w w' : World} (h : OpsTab w) (k : Keep w w') : OpsTab w' := fun i hi => k.cell _ _ _ (h i hi) (.inl fun x e => by cases e)
theorem opFrom_at (s : List UInt8) (k : Nat) (hk : k < 8) : opFrom s (ops.drop k) ((k : Int) + 1) = if stands (ops.getD k []) s = true then ((k : Int) + 1, ops.getD k []) else opFrom s (ops.drop (k + 1)) (((k + 1 : Nat) : Int) + 1) := by
 have e : ops.drop k = ops.getD k [] :: ops.drop (k + 1) := by
  rw [List.drop_eq_getElem_cons (show k < ops.length from hk)]
  simp [List.getD, List.getElem?_eq_getElem (show k < ops.length from hk)]
 rw [e, opFrom]
 rfl
theorem ops_len (k : Nat) : (ops.getD k []).length ≤ 1000 := by
 unfold ops
 match k with
 | 0 | 1 | 2 | 3 | 4 | 5 | 6 | 7 => decide
 | k + 8 => exact Nat.zero_le _
def OpJ (w : World) (b : Nat) (A : Option Addr) (n c p : Nat) (s : List UInt8) (i : Value) (W : World) : Prop :=
 ∃ k : Nat, k ≤ 8 ∧ i = .int .i64 (k : Int) ∧ opFrom s (ops.drop k) ((k : Int) + 1) = opOf s ∧ Rd W b A n c p ∧ Moved b w W
theorem op_any (b : Nat) (A : Option Addr) (n c p : Nat) (l s : List UInt8) (w : World) (hR : Rd w b A n c p) (hr : Row w A n l) (hc : n ≤ c) (hs : Pl l p s) (ht : OpsTab w) :
  Calls Tryz.prog 157 #[.pointer (some ⟨b, 0, none⟩)] w fun e w' => e = .returned (.tuple #[.int .i64 (opOf s).1, .string (mk (opOf s).2)]) ∧ Rd w' b A n c p ∧ Moved b w w' := by
 have HR := Lib.hid hR
 have HRow := Lib.hid hr
 have HP := Lib.hid hs
 have HT := Lib.hid ht
 clear hR hr hs ht
 go_enter Tryz.func157, Tryz.ntmps157
 go_wp2
 go_loopw [5] (fun i W => OpJ w b A n c p s i W) (fun i _ => 8 - (intOf i).toNat)
 case atStart => exact ⟨0, by omega, rfl, rfl, HR.out, Moved.refl _ _⟩
 case round =>
  obtain ⟨k, hk, rfl, hop, hR1, hM1⟩ := hrel
  have HR1 := Lib.hid hR1
  have HM1 := Lib.hid hM1
  have HOp := Lib.hid hop
  have HK := Lib.hid (HR.out.keep hM1)
  have HT1 := Lib.hid (HT.out.keep HK.out)
  have HRow1 := Lib.hid (row_keep HRow.out HK.out)
  clear hR1 hM1 hop
  by_cases hlt : k < 8
  ·have hx := HT1.out k hlt
   have HSt := Lib.hid (opFrom_at s k hlt)
   have HC := Lib.hid (fun W (h1 : Rd W b A n c p) (h2 : Row W A n l) => stands_any b A n c p l s (ops.getD k []) W h1 h2 hc HP.out (ops_len k))
   generalize ops.getD k [] = t at hx HSt HC
   go_wp2_with fail
   refine (HC.out _ HR1.out HRow1.out).mono ?_
   rintro e w2 ⟨rfl, hR2, hM2⟩
   have HR2 := Lib.hid hR2
   have hx2 : w2.cell? ⟨0, k, none⟩ = some (.string (mk t)) := (HR1.out.keep hM2).cell _ _ _ hx (.inl fun x e => by cases e)
   have HM2 := Lib.hid (HM1.out.trans hM2)
   clear hR2 hM2
   cases hst : stands t s with
   | true =>
    have HF : Hid (opOf s = (1 + (k : Int), t)) := by
     have := HSt.out
     rw [hst, if_pos rfl] at this
     rw [Int.add_comm]; exact HOp.out.symm.trans this
    clear HSt hx
    go_wp2_with fail
    go_quiet (fail)
    go_wp2
    go_ret2
    rw [HF.out]
    exact ⟨rfl, HR2.out.drewN _, HM2.out.drewN _⟩
   | false =>
    have HF : Hid (opFrom s (ops.drop (k + 1)) (((k + 1 : Nat) : Int) + 1) = opOf s) := by
     have := HSt.out
     rw [hst, if_neg (by simp)] at this
     exact this.symm.trans HOp.out
    clear HSt hx
    go_wp2
    exact ⟨⟨k + 1, by omega, by go_num, HF.out, HR2.out, HM2.out⟩, by simp [intOf]; omega⟩
  ·have HF : Hid (opOf s = (5, [])) := by
    have h8 : k = 8 := by omega
    have := HOp.out
    rw [h8] at this
    exact this.symm
   have hk8 : k = 8 := by omega
   subst hk8
   go_wp2
   go_ret2
   rw [HF.out]
   exact ⟨rfl, HR1.out, HM1.out⟩
def FurPost (b : Nat) (A : Option Addr) (n c p : Nat) (l : List UInt8) (w : World) (f : Option (List UInt8)) (e : Ending) (w' : World) : Prop :=
 Moved b w w' ∧ match f with
  | some s' => e = .returned (.bool true) ∧ ∃ q, Pl l q s' ∧ Rd w' b A n c q
  | none => e = .returned (.bool false) ∧ Rd w' b A n c p
theorem furE_any (b : Nat) (A : Option Addr) (n c p : Nat) (l s : List UInt8) (w : World) (hR : Rd w b A n c p) (hr : Row w A n l) (hc : n ≤ c) (hs : Pl l p s) :
  Calls Tryz.prog 115 #[.pointer (some ⟨b, 0, none⟩)] w (FurPost b A n c p l w (furE s)) := by
 have HR := Lib.hid hR
 have HRow := Lib.hid hr
 have HP := Lib.hid hs
 have HFU : Hid (furE s = if stands [124, 124] s = true then some (blanks (s.drop 2)) else none) := rfl
 have HLen := Lib.hid (fun h => stands_len (t := [124, 124]) (s := s) h)
 clear hR hr hs
 go_enter Tryz.func115, Tryz.ntmps115
 go_wp2_with fail
 refine (stands_any b A n c p l s [124, 124] _ HR.out HRow.out hc HP.out (by decide)).mono ?_
 rintro e w1 ⟨rfl, hR1, hM1⟩
 have HR1 := Lib.hid hR1
 have HM1 := Lib.hid hM1
 have HRow1 := Lib.hid (row_keep HRow.out (HR.out.keep hM1))
 clear hR1 hM1
 cases hst : stands [124, 124] s with
 | true =>
  rw [hst] at HFU
  have HF : Hid (furE s = some (blanks (s.drop 2))) := HFU.out
  have h2 := HLen.out hst
  rw [HP.out.len, HRow.out.1] at h2
  have hpn := HP.out.le
  rw [HRow.out.1] at hpn
  have hk : p + 2 ≤ n := by simp at h2; omega
  clear h2
  go_wp2_with fail
  refine (pass_any b A n c p 2 l s _ HR1.out HRow1.out HP.out hk).mono ?_
  rintro e w2 ⟨rfl, q, hq, hR2, hM2⟩
  go_wp2
  go_ret
  rw [HF.out]
  exact ⟨HM1.out.trans hM2, rfl, q, hq, hR2⟩
 | false =>
  rw [hst] at HFU
  have HF : Hid (furE s = none) := HFU.out
  go_wp2
  go_ret
  rw [HF.out]
  exact ⟨HM1.out, rfl, HR1.out⟩
theorem furO_any (b : Nat) (A : Option Addr) (n c p : Nat) (l s : List UInt8) (w : World) (hR : Rd w b A n c p) (hr : Row w A n l) (hc : n ≤ c) (hs : Pl l p s) :
  Calls Tryz.prog 143 #[.pointer (some ⟨b, 0, none⟩)] w (FurPost b A n c p l w (furO s)) := by
 have HR := Lib.hid hR
 have HRow := Lib.hid hr
 have HP := Lib.hid hs
 have HFU : Hid (furO s = if stands [44] s = true then some (blanks (s.drop 1)) else if oneOf starts s = true then some s else none) := rfl
 have HLen := Lib.hid (fun h => stands_len (t := [44]) (s := s) h)
 clear hR hr hs
 go_enter Tryz.func143, Tryz.ntmps143
 go_wp2_with fail
 refine (stands_any b A n c p l s [44] _ HR.out HRow.out hc HP.out (by decide)).mono ?_
 rintro e w1 ⟨rfl, hR1, hM1⟩
 have HR1 := Lib.hid hR1
 have HM1 := Lib.hid hM1
 have HRow1 := Lib.hid (row_keep HRow.out (HR.out.keep hM1))
 clear hR1 hM1
 cases hst : stands [44] s with
 | true =>
  rw [hst] at HFU
  have HF : Hid (furO s = some (blanks (s.drop 1))) := HFU.out
  have h2 := HLen.out hst
  rw [HP.out.len, HRow.out.1] at h2
  have hpn := HP.out.le
  rw [HRow.out.1] at hpn
  have hk : p + 1 ≤ n := by simp at h2; omega
  clear h2
  go_wp2_with fail
  refine (pass_any b A n c p 1 l s _ HR1.out HRow1.out HP.out hk).mono ?_
  rintro e w2 ⟨rfl, q, hq, hR2, hM2⟩
  go_wp2
  go_ret
  rw [HF.out]
  exact ⟨HM1.out.trans hM2, rfl, q, hq, hR2⟩
 | false =>
  rw [hst] at HFU
  have HFU2 : Hid (furO s = if oneOf starts s = true then some s else none) := HFU.out
  clear HFU
  go_wp2_with fail
  refine (oneOf_any b A n c p l s starts _ HR1.out HRow1.out HP.out).mono ?_
  rintro e w2 ⟨rfl, hR2, hM2⟩
  have HM2 := Lib.hid (HM1.out.trans hM2)
  have HR2 := Lib.hid hR2
  clear hR2 hM2
  generalize oneOf starts s = x at HFU2
  go_wp2
  go_ret
  rw [HFU2.out]
  cases x with
  | true => exact ⟨HM2.out, rfl, p, HP.out, HR2.out⟩
  | false => exact ⟨HM2.out, rfl, HR2.out⟩
end Go.Proofs.YtgfbflnhjpbceaaGreatDoor.Range
namespace Go.Proofs.YtgfbflnhjpbceaaGreatDoor.Num
open Go.RowKit
def numOut (l : List UInt8) : Value := if val l ≤ maxField then .tuple #[.int .u64 (val l), .bool true] else .tuple #[.int .u64 0, .bool false]
theorem numOut_yes {l : List UInt8} (h : val l ≤ maxField) : numOut l = .tuple #[.int .u64 (val l), .bool true] := by unfold numOut; rw [if_pos h]
theorem numOut_no {l : List UInt8} (h : ¬ val l ≤ maxField) : numOut l = .tuple #[.int .u64 0, .bool false] := by unfold numOut; rw [if_neg h]
def NumJ (w : World) (A : Option Addr) (n c : Nat) (l : List UInt8) (a' : Act) (w' : World) : Prop :=
 w = w' ∧ ∃ (k : Nat) (v : Int) (u5 u6 u7 u8 u9 u10 u11 u12 u13 u14 u15 u16 u17 u18 u19 u20 u21 u22 u23 u24 u25 u26 u27 : Value), k ≤ n ∧ v = (val (l.take k) : Int) ∧ v ≤ 9223372036854775807 ∧ a' = { tmps := #[.slice A n c, undef, .int .u64 v, .bool false, .int .i64 k, u5, u6, u7, u8, u9, u10, u11, u12, u13, u14, u15, u16, u17, u18, u19, u20, u21, u22, u23, u24, u25, u26, u27], defers := [] }
def NumM (n : Nat) (a' : Act) (_ : World) : Nat := n - (intOf (a'.tmps.getD 4 undef)).toNat

theorem number_any (A : Option Addr) (n c : Nat) (l : List UInt8) (w : World) (h : Row w A n l) (hd : AllDig l) :
  Calls Tryz.prog 201 #[.slice A n c] w fun e w' => e = .returned (numOut l) ∧ w = w' := by
 obtain ⟨hl, hm, hc⟩ := h
 unfold maxLen at hm
 have HC := Lib.hid hc; clear hc
 have HL := Lib.hid hl; clear hl
 have HD := Lib.hid hd; clear hd
 go_enter Tryz.func201, Tryz.ntmps201
 go_wp2
 refine wp_scope_back 0 (NumJ w A n c l) (NumM n) rfl ?_ ?_
 ·rintro a' w' ⟨rfl, k, v, u5, u6, u7, u8, u9, u10, u11, u12, u13, u14, u15, u16, u17, u18, u19, u20, u21, u22, u23, u24, u25, u26, u27, hk, hv, hv2, rfl⟩
  have hv1 : 0 ≤ v := by rw [hv]; exact Int.natCast_nonneg _
  have HV := Lib.hid hv; clear hv
  by_cases hlt : k < n
  ·obtain ⟨b, o, rfl, hb, hcell⟩ := HC.out (by omega)
   have hx := hcell k hlt
   clear hcell HC
   have hbd := (isDig_at l k).1 (allDig_getD HD.out (by rw [HL.out]; exact hlt))
   obtain ⟨x, hxe⟩ : ∃ x, x = byteAt l k := ⟨_, rfl⟩
   rw [← hxe] at hx hbd
   have HX := Lib.hid hxe; clear hxe
   obtain ⟨h1, h2⟩ := hbd
   have hne : ((k : Int) == (n : Int)) = false := by simp; omega
   have HT : Hid ((val (l.take (k + 1)) : Int) = 10 * v + (x - 48)) := by
    unfold Hid
    rw [take_snoc l k (by rw [HL.out]; exact hlt), val_snoc, HV.out]
    have := HX.out; unfold byteAt at this; omega
   by_cases hg : v ≤ (9223372036854775807 - (x - 48)) / 10
   ·go_wp2
    go_step3
    rw [show ((k : Int) + 1) = ((k + 1 : Nat) : Int) from rfl]
    exact ⟨rfl, ⟨rfl, k + 1, _, _, _, _, _, _, _, _, _, _, _, _, _, _, _, _, _, _, _, _, _, _, _, _, by omega, HT.out.symm, by omega, rfl⟩, by simp [NumM, intOf]; omega⟩
   ·have HN : Hid (¬ val l ≤ maxField) := by
     have h3 := val_take_le l (k + 1)
     have h4 := HT.out
     unfold Hid maxField; omega
    go_wp2
    simp only [Exit.jump]
    go_ret2
    exact ⟨by rw [numOut_no HN.out]; rfl, rfl⟩
  ·obtain rfl : k = n := by omega
   have HV2 : Hid (v = (val l : Int)) := by have := HV.out; rw [List.take_of_length_le (by rw [HL.out]; exact Nat.le_refl _)] at this; exact this
   have HN : Hid (val l ≤ maxField) := by have := HV2.out; unfold Hid maxField; omega
   have hne : ((k : Int) == (k : Int)) = true := by simp
   go_wp2
   simp only [Exit.jump]
   go_ret2
   exact ⟨by rw [numOut_yes HN.out, ← HV2.out]; rfl, rfl⟩
 ·intro HP
  go_wp2
  go_step3
  rename_i hK
  exact hK _ _ (HP.out _ _ ⟨rfl, 0, 0, _, _, _, _, _, _, _, _, _, _, _, _, _, _, _, _, _, _, _, _, _, _, _, by omega, by simp [val, valFrom], by omega, rfl⟩)

def parseOut (l : List UInt8) (p : Int) : Value := .tuple #[.int .u64 ((parse l p).1 : Int), .int .i64 ((parse l p).2.1 : Int), .int .i64 ((parse l p).2.2 : Int)]

theorem parse_out (A : Option Addr) (n c : Nat) (l : List UInt8) (p : Int) (w : World) (h : Row w A n l) (ho : p < 0 ∨ (n : Int) < p) :
  Calls Tryz.prog 192 #[.slice A n c, .int .i64 p] w fun e w' => e = .returned (parseOut l p) ∧ w = w' := by
 have HE : Hid (parse l p = (0, 0, 1)) := by
  unfold Hid parse; rw [if_pos (by rw [h.1]; exact ho)]
 clear h
 by_cases h0 : p < 0
 ·go_enter Tryz.func192, Tryz.ntmps192
  go_wp2
  go_ret3
  exact ⟨by unfold parseOut; rw [HE.out]; rfl, rfl⟩
 ·have h1 : (n : Int) < p := by omega
  clear ho
  go_enter Tryz.func192, Tryz.ntmps192
  go_wp2
  go_ret3
  exact ⟨by unfold parseOut; rw [HE.out]; rfl, rfl⟩

theorem parse_at (l : List UInt8) (p : Nat) (hp : p ≤ l.length) (d : List UInt8) (hd : (l.drop p).take (run (l.drop p)) = d) :
  parse l p = if d.length = 0 then (0, 0, 2) else if pad d = true then (0, 0, 3) else if maxField < val d then (0, 0, 4) else (val d, d.length, 0) := by
 subst hd; unfold parse; rw [if_neg (by omega), Int.toNat_natCast]

theorem parse_in (A : Option Addr) (n c : Nat) (l : List UInt8) (p : Nat) (w : World) (h : Row w A n l) (hc : n ≤ c) (hp : p ≤ n) :
  Calls Tryz.prog 192 #[.slice A n c, .int .i64 p] w fun e w' => e = .returned (parseOut l p) ∧ w = w' := by
 have hm := h.2.1
 unfold maxLen at hm
 have hp0 : ¬ (p : Int) < 0 := by omega
 have hp1 : ¬ n < p := by omega
 by_cases hcp : c = p
 ·have hn : n = p := by omega
  subst hcp
  subst hn
  have HE : Hid (parse l n = (0, 0, 2)) := by
   have e := parse_at l n (by rw [h.1]; exact Nat.le_refl _) [] (by rw [List.drop_eq_nil_of_le (by rw [h.1]; exact Nat.le_refl _)]; rfl)
   exact e.trans (if_pos rfl)
  have R1 : Row w A 0 [] := ⟨rfl, by omega, fun h0 => by omega⟩
  have H1 := Lib.hid R1
  clear h R1 hc hp
  go_enter Tryz.func192, Tryz.ntmps192
  go_wp2_with fail
  refine (digits_any _ _ _ _ _ H1.out).mono ?_
  rintro e w' ⟨rfl, rfl⟩
  rw [show run [] = 0 from rfl]
  go_wp2
  go_ret3
  exact ⟨by unfold parseOut; rw [HE.out]; rfl, rfl⟩
 ·obtain ⟨m, hM⟩ : ∃ m, run (l.drop p) = m := ⟨_, rfl⟩
  have hpm : p + m ≤ n := by have := run_le (l.drop p); rw [hM, List.length_drop, h.1] at this; omega
  have R1 : Row w (A.map (fun x => x.add p)) (n - p) (l.drop p) := by
   have := h.piece (A' := A.map (fun x => x.add p)) p (n - p) (by omega) (fun _ b o e => map_add p A b o e)
   rwa [List.take_of_length_le (by rw [List.length_drop, h.1]; exact Nat.le_refl _)] at this
  obtain ⟨d, hd⟩ : ∃ d, (l.drop p).take m = d := ⟨_, rfl⟩
  have R2 : Row w (A.map (fun x => x.add p)) m d := by
   have := h.piece (A' := A.map (fun x => x.add p)) p m hpm (fun _ b o e => map_add p A b o e)
   rwa [hd] at this
  have HAD : Hid (AllDig d) := by have := allDig_take_run (l.drop p); rw [hM, hd] at this; exact this
  have HE : Hid (parse l p = if d.length = 0 then (0, 0, 2) else if pad d = true then (0, 0, 3) else if maxField < val d then (0, 0, 4) else (val d, d.length, 0)) :=
   parse_at l p (by rw [h.1]; exact hp) d (by rw [hM]; exact hd)
  have hdl := R2.1
  rw [hdl] at HE
  have H1 := Lib.hid R1
  have H2 := Lib.hid R2
  have HM := Lib.hid hM
  clear h R1 R2 hM hd hdl
  go_enter Tryz.func192, Tryz.ntmps192
  go_wp2_with fail
  refine (digits_any _ _ _ _ _ H1.out).mono ?_
  rintro e w' ⟨rfl, rfl⟩
  rw [HM.out]
  by_cases h0 : m = 0
  ·have HF : Hid (parse l p = (0, 0, 2)) := by have := HE.out; rw [if_pos h0] at this; exact this
   subst h0
   go_wp2
   go_ret3
   exact ⟨by unfold parseOut; rw [HF.out]; rfl, rfl⟩
  ·have hb : ((m : Int) == 0) = false := by simp [h0]
   have HE2 : Hid (parse l p = if pad d = true then (0, 0, 3) else if maxField < val d then (0, 0, 4) else (val d, m, 0)) := by have := HE.out; rw [if_neg h0] at this; exact this
   clear HE
   go_wp2_with fail
   refine (padded_any _ _ _ _ _ H2.out).mono ?_
   rintro e w' ⟨rfl, rfl⟩
   by_cases hpd : pad d = true
   ·have HF : Hid (parse l p = (0, 0, 3)) := by have := HE2.out; rw [if_pos hpd] at this; exact this
    rw [hpd]
    go_wp2
    go_ret3
    exact ⟨by unfold parseOut; rw [HF.out]; rfl, rfl⟩
   ·have HE3 : Hid (parse l p = if maxField < val d then (0, 0, 4) else (val d, m, 0)) := by have := HE2.out; rw [if_neg hpd] at this; exact this
    rw [show pad d = false from by simpa using hpd]
    clear hpd HE2
    go_wp2_with fail
    refine (number_any _ _ _ _ _ H2.out HAD.out).mono ?_
    rintro e w' ⟨rfl, rfl⟩
    by_cases hv : val d ≤ maxField
    ·have HF : Hid (parse l p = (val d, m, 0)) := by have := HE3.out; rw [if_neg (by omega)] at this; exact this
     rw [numOut_yes hv]
     have HV := Lib.hid hv; clear hv
     go_wp2
     go_ret3
     exact ⟨by unfold parseOut; rw [HF.out]; rfl, rfl⟩
    ·have HF : Hid (parse l p = (0, 0, 4)) := by have := HE3.out; rw [if_pos (by omega)] at this; exact this
     rw [numOut_no hv]
     have HV := Lib.hid hv; clear hv
     go_wp2
     go_ret3
     exact ⟨by unfold parseOut; rw [HF.out]; rfl, rfl⟩

theorem parse_any (A : Option Addr) (n c : Nat) (l : List UInt8) (p : Int) (w : World) (h : Row w A n l) (hc : n ≤ c) :
  Calls Tryz.prog 192 #[.slice A n c, .int .i64 p] w fun e w' => e = .returned (parseOut l p) ∧ w = w' := by
 by_cases ho : p < 0 ∨ (n : Int) < p
 ·exact parse_out A n c l p w h ho
 ·obtain ⟨k, rfl⟩ := Int.eq_ofNat_of_zero_le (show 0 ≤ p by omega)
  exact parse_in A n c l k w h hc (by omega)
end Go.Proofs.YtgfbflnhjpbceaaGreatDoor.Num
namespace Go.Proofs.YtgfbflnhjpbceaaGreatDoor.Semver
open Go.RowKit Num Ident

theorem point_any (A : Option Addr) (n c : Nat) (l : List UInt8) (q : Nat) (w : World) (h : Row w A n l) (hq : q ≤ n) :
  Calls Tryz.prog 193 #[.slice A n c, .int .i64 q] w fun e w' => e = .returned (.int .i64 (point l q)) ∧ w = w' := by
 obtain ⟨hl, hm, hc⟩ := h
 unfold maxLen at hm
 have HC := Lib.hid hc; clear hc
 have HL := Lib.hid hl; clear hl
 by_cases h0 : q = n
 ·have HF := Lib.hid (point_end (l := l) (q := q) (by rw [HL.out]; exact h0))
  subst h0
  have hb : ((q : Int) == (q : Int)) = true := by simp
  go_enter Tryz.func193, Tryz.ntmps193
  go_wp2
  go_ret
  exact ⟨by rw [HF.out]; rfl, rfl⟩
 ·have hlt : q < n := by omega
  have hb : ((q : Int) == (n : Int)) = false := by simp; omega
  obtain ⟨b, o, rfl, hbl, hcell⟩ := HC.out (by omega)
  have hx := hcell q hlt
  clear hcell HC
  have HN := Lib.hid (point_no (l := l) (q := q) (by rw [HL.out]; exact h0))
  have HY := Lib.hid (point_yes (l := l) (q := q) (by rw [HL.out]; exact h0))
  have hbd := byteAt_bd l q
  generalize byteAt l q = x at hx hbd HN HY
  clear h0
  by_cases h46 : x = 46
  ·have HF := Lib.hid (HY.out h46)
   have h1 : (x != 46) = false := by simp [h46]
   clear h46 HN HY
   go_enter Tryz.func193, Tryz.ntmps193
   go_wp2
   go_ret
   exact ⟨by rw [HF.out]; rfl, rfl⟩
  ·have HF := Lib.hid (HN.out h46)
   have h1 : (x != 46) = true := by simp [h46]
   clear h46 HN HY
   go_enter Tryz.func193, Tryz.ntmps193
   go_wp2
   go_ret
   exact ⟨by rw [HF.out]; rfl, rfl⟩

def coreOut (k : Core) : Value := .tuple #[.agg #[.int .u64 (k.2.2.1 : Int), .int .u64 (k.2.2.2.1 : Int), .int .u64 (k.2.2.2.2 : Int)], .int .i64 (k.2.1 : Int), .int .i64 (k.1 : Int)]

def CoreAt (w : World) (l : List UInt8) (p q i : Nat) (w' : World) : Prop :=
 (i = 0 ∧ w' = (w.alloc (.cells #[.int .u64 0, .int .u64 0, .int .u64 0] 99)) ∧ core l q = core l p) ∨
 (i = 1 ∧ ∃ x : Nat, w' = (w.alloc (.cells #[.int .u64 (x : Int), .int .u64 0, .int .u64 0] 99)) ∧ core1 l x q = core l p) ∨
 (i = 2 ∧ ∃ x y : Nat, w' = (w.alloc (.cells #[.int .u64 (x : Int), .int .u64 (y : Int), .int .u64 0] 99)) ∧ core2 l x y q = core l p)
def CoreJ (w : World) (A : Option Addr) (n c : Nat) (l : List UInt8) (p : Nat) (a' : Act) (w' : World) : Prop :=
 ∃ (q i : Nat) (u8 u9 u10 u11 u12 u13 u14 u15 u16 u17 u18 u19 u20 u21 u22 u23 u24 u25 u26 u27 u28 u29 u30 u31 u32 u33 u34 u35 u36 u37 u38 u39 u40 u41 u42 u43 : Value), q ≤ n ∧ CoreAt w l p q i w' ∧
  a' = { tmps := #[.slice A n c, .int .i64 q, undef, undef, .pointer (some ⟨w.heap.size, 0, none⟩), .int .i64 0, .int .i64 0, .int .i64 i, u8, u9, u10, u11, u12, u13, u14, u15, u16, u17, u18, u19, u20, u21, u22, u23, u24, u25, u26, u27, u28, u29, u30, u31, u32, u33, u34, u35, u36, u37, u38, u39, u40, u41, u42, u43], defers := [] }
def CoreM (a' : Act) (_ : World) : Nat := 3 - (intOf (a'.tmps.getD 7 undef)).toNat

theorem readCore_any (A : Option Addr) (n c : Nat) (l : List UInt8) (p : Nat) (w : World) (h : Row w A n l) (hc : n ≤ c) (hp : p ≤ n) :
  Calls Tryz.prog 181 #[.slice A n c, .int .i64 p] w fun e w' => e = .returned (coreOut (core l p)) ∧ Below w.heap.size w w' := by
 have hm := h.2.1
 unfold maxLen at hm
 have HR := Lib.hid h
 have HL := Lib.hid h.1
 clear h
 go_enter Tryz.func181, Tryz.ntmps181
 go_wp2
 refine wp_scope_back 0 (CoreJ w A n c l p) CoreM rfl ?_ ?_
 ·rintro a' w1 ⟨q, i, u8, u9, u10, u11, u12, u13, u14, u15, u16, u17, u18, u19, u20, u21, u22, u23, u24, u25, u26, u27, u28, u29, u30, u31, u32, u33, u34, u35, u36, u37, u38, u39, u40, u41, u42, u43, hq, (⟨rfl, rfl, hQ⟩ | ⟨rfl, x, rfl, hQ⟩ | ⟨rfl, x, y, rfl, hQ⟩), rfl⟩
  all_goals
   have HQ := Lib.hid hQ
   clear hQ
  ·have HB : Hid (Below w.heap.size w (w.alloc (.cells #[.int .u64 0, .int .u64 0, .int .u64 0] 99))) := ((Below.refl w.heap.size w).alloc (Nat.le_refl _) _)
   have HPE := Lib.hid (parse_end l q (by rw [HL.out]; exact hq))
   obtain ⟨⟨v, m, f⟩, hp⟩ : ∃ t, parse l q = t := ⟨_, rfl⟩
   have HE : Hid (core l q = if f ≠ 0 then (f, q, 0, 0, 0) else after1 l v (q + m)) := by unfold Hid core; rw [hp]
   have HP : Hid (parseOut l q = .tuple #[.int .u64 (v : Int), .int .i64 (m : Int), .int .i64 (f : Int)]) := by unfold Hid parseOut; rw [hp]
   rw [hp] at HPE
   have hqm : q + m ≤ n := by have := HPE.out; rw [HL.out] at this; exact this
   clear hp HPE
   go_wp2_with fail
   refine (parse_any _ _ _ l q _ (HR.out.kept HB.out) hc).mono ?_
   rintro e w' ⟨rfl, rfl⟩
   rw [HP.out]
   by_cases h0 : f = 0
   ·subst h0
    have HE2 : Hid (core l q = after1 l v (q + m)) := HE.out.trans (if_neg (by simp))
    have HB2 : Hid (Below w.heap.size w (w.alloc (.cells #[.int .u64 (v : Int), .int .u64 0, .int .u64 0] 99))) := ((Below.refl w.heap.size w).alloc (Nat.le_refl _) _)
    clear HE
    go_wp2_with fail
    refine (point_any _ _ _ l (q + m) _ (HR.out.kept HB2.out) hqm).mono ?_
    rintro e w' ⟨rfl, rfl⟩
    have HPL := Lib.hid (point_lt (l := l) (q := q + m) (by rw [HL.out]; exact hqm))
    have HE3 : Hid (core l q = if point l (q + m) ≠ 0 then (point l (q + m), q + m, 0, 0, 0) else core1 l v (q + m + 1)) := HE2.out
    clear HE2
    generalize point l (q + m) = g at HPL HE3 ⊢
    by_cases h1 : g = 0
    ·subst h1
     have HE4 : Hid (core l q = core1 l v (q + m + 1)) := HE3.out.trans (if_neg (by simp))
     have hql : q + m + 1 ≤ n := by have := HPL.out rfl; rw [HL.out] at this; omega
     go_wp2
     go_step3
     rw [show ((q : Int) + (m : Int) + 1) = ((q + m + 1 : Nat) : Int) from rfl]
     refine ⟨rfl, ⟨q + m + 1, 1, _, _, _, _, _, _, _, _, _, _, _, _, _, _, _, _, _, _, _, _, _, _, _, _, _, _, _, _, _, _, _, _, _, _, _, _, hql, .inr (.inl ⟨rfl, v, rfl, HE4.out.symm.trans HQ.out⟩), rfl⟩, ?_⟩
     simp [CoreM, intOf]
    ·have HE4 : Hid (core l q = (g, q + m, 0, 0, 0)) := HE3.out.trans (if_pos h1)
     have hb1 : ((g : Int) != 0) = true := by simp [h1]
     have hb2 : ((g : Int) == 0) = false := by simp [h1]
     clear h1 HE3
     go_wp2
     simp only [Exit.jump]
     exact bodyPost_ret (v := coreOut (g, q + m, 0, 0, 0)) (by simp [coreOut, results, Tryz.results181, go_sem]) rfl ⟨by rw [← HQ.out, HE4.out], ((Below.refl w.heap.size w).alloc (Nat.le_refl _) _)⟩
   ·have HE2 : Hid (core l q = (f, q, 0, 0, 0)) := HE.out.trans (if_pos h0)
    have hb1 : ((f : Int) != 0) = true := by simp [h0]
    have hb2 : ((f : Int) == 0) = false := by simp [h0]
    clear h0 HE
    go_wp2
    simp only [Exit.jump]
    exact bodyPost_ret (v := coreOut (f, q, 0, 0, 0)) (by simp [coreOut, results, Tryz.results181, go_sem]) rfl ⟨by rw [← HQ.out, HE2.out], ((Below.refl w.heap.size w).alloc (Nat.le_refl _) _)⟩
  ·have HB : Hid (Below w.heap.size w (w.alloc (.cells #[.int .u64 (x : Int), .int .u64 0, .int .u64 0] 99))) := ((Below.refl w.heap.size w).alloc (Nat.le_refl _) _)
   have HPE := Lib.hid (parse_end l q (by rw [HL.out]; exact hq))
   obtain ⟨⟨v, m, f⟩, hp⟩ : ∃ t, parse l q = t := ⟨_, rfl⟩
   have HE : Hid (core1 l x q = if f ≠ 0 then (f, q, 0, 0, 0) else after2 l x v (q + m)) := by unfold Hid core1; rw [hp]
   have HP : Hid (parseOut l q = .tuple #[.int .u64 (v : Int), .int .i64 (m : Int), .int .i64 (f : Int)]) := by unfold Hid parseOut; rw [hp]
   rw [hp] at HPE
   have hqm : q + m ≤ n := by have := HPE.out; rw [HL.out] at this; exact this
   clear hp HPE
   go_wp2_with fail
   refine (parse_any _ _ _ l q _ (HR.out.kept HB.out) hc).mono ?_
   rintro e w' ⟨rfl, rfl⟩
   rw [HP.out]
   by_cases h0 : f = 0
   ·subst h0
    have HE2 : Hid (core1 l x q = after2 l x v (q + m)) := HE.out.trans (if_neg (by simp))
    have HB2 : Hid (Below w.heap.size w (w.alloc (.cells #[.int .u64 (x : Int), .int .u64 (v : Int), .int .u64 0] 99))) := ((Below.refl w.heap.size w).alloc (Nat.le_refl _) _)
    clear HE
    go_wp2_with fail
    refine (point_any _ _ _ l (q + m) _ (HR.out.kept HB2.out) hqm).mono ?_
    rintro e w' ⟨rfl, rfl⟩
    have HPL := Lib.hid (point_lt (l := l) (q := q + m) (by rw [HL.out]; exact hqm))
    have HE3 : Hid (core1 l x q = if point l (q + m) ≠ 0 then (point l (q + m), q + m, 0, 0, 0) else core2 l x v (q + m + 1)) := HE2.out
    clear HE2
    generalize point l (q + m) = g at HPL HE3 ⊢
    by_cases h1 : g = 0
    ·subst h1
     have HE4 : Hid (core1 l x q = core2 l x v (q + m + 1)) := HE3.out.trans (if_neg (by simp))
     have hql : q + m + 1 ≤ n := by have := HPL.out rfl; rw [HL.out] at this; omega
     go_wp2
     go_step3
     rw [show ((q : Int) + (m : Int) + 1) = ((q + m + 1 : Nat) : Int) from rfl]
     refine ⟨rfl, ⟨q + m + 1, 2, _, _, _, _, _, _, _, _, _, _, _, _, _, _, _, _, _, _, _, _, _, _, _, _, _, _, _, _, _, _, _, _, _, _, _, _, hql, .inr (.inr ⟨rfl, x, v, rfl, HE4.out.symm.trans HQ.out⟩), rfl⟩, ?_⟩
     simp [CoreM, intOf]
    ·have HE4 : Hid (core1 l x q = (g, q + m, 0, 0, 0)) := HE3.out.trans (if_pos h1)
     have hb1 : ((g : Int) != 0) = true := by simp [h1]
     have hb2 : ((g : Int) == 0) = false := by simp [h1]
     clear h1 HE3
     go_wp2
     simp only [Exit.jump]
     exact bodyPost_ret (v := coreOut (g, q + m, 0, 0, 0)) (by simp [coreOut, results, Tryz.results181, go_sem]) rfl ⟨by rw [← HQ.out, HE4.out], ((Below.refl w.heap.size w).alloc (Nat.le_refl _) _)⟩
   ·have HE2 : Hid (core1 l x q = (f, q, 0, 0, 0)) := HE.out.trans (if_pos h0)
    have hb1 : ((f : Int) != 0) = true := by simp [h0]
    have hb2 : ((f : Int) == 0) = false := by simp [h0]
    clear h0 HE
    go_wp2
    simp only [Exit.jump]
    exact bodyPost_ret (v := coreOut (f, q, 0, 0, 0)) (by simp [coreOut, results, Tryz.results181, go_sem]) rfl ⟨by rw [← HQ.out, HE2.out], ((Below.refl w.heap.size w).alloc (Nat.le_refl _) _)⟩
  ·have HB : Hid (Below w.heap.size w (w.alloc (.cells #[.int .u64 (x : Int), .int .u64 (y : Int), .int .u64 0] 99))) := ((Below.refl w.heap.size w).alloc (Nat.le_refl _) _)
   have HPE := Lib.hid (parse_end l q (by rw [HL.out]; exact hq))
   obtain ⟨⟨v, m, f⟩, hp⟩ : ∃ t, parse l q = t := ⟨_, rfl⟩
   have HE : Hid (core2 l x y q = if f ≠ 0 then (f, q, 0, 0, 0) else (0, q + m, x, y, v)) := by unfold Hid core2; rw [hp]
   have HP : Hid (parseOut l q = .tuple #[.int .u64 (v : Int), .int .i64 (m : Int), .int .i64 (f : Int)]) := by unfold Hid parseOut; rw [hp]
   rw [hp] at HPE
   have hqm : q + m ≤ n := by have := HPE.out; rw [HL.out] at this; exact this
   clear hp HPE
   go_wp2_with fail
   refine (parse_any _ _ _ l q _ (HR.out.kept HB.out) hc).mono ?_
   rintro e w' ⟨rfl, rfl⟩
   rw [HP.out]
   by_cases h0 : f = 0
   ·subst h0
    have HE2 : Hid (core2 l x y q = (0, q + m, x, y, v)) := HE.out.trans (if_neg (by simp))
    clear HE
    go_wp2
    simp only [Exit.jump]
    exact bodyPost_ret (v := coreOut (0, q + m, x, y, v)) (by simp [coreOut, results, Tryz.results181, go_sem]) rfl ⟨by rw [← HQ.out, HE2.out], ((Below.refl w.heap.size w).alloc (Nat.le_refl _) _)⟩
   ·have HE2 : Hid (core2 l x y q = (f, q, 0, 0, 0)) := HE.out.trans (if_pos h0)
    have hb1 : ((f : Int) != 0) = true := by simp [h0]
    have hb2 : ((f : Int) == 0) = false := by simp [h0]
    clear h0 HE
    go_wp2
    simp only [Exit.jump]
    exact bodyPost_ret (v := coreOut (f, q, 0, 0, 0)) (by simp [coreOut, results, Tryz.results181, go_sem]) rfl ⟨by rw [← HQ.out, HE2.out], ((Below.refl w.heap.size w).alloc (Nat.le_refl _) _)⟩
 ·intro HP
  go_wp2
  go_step3
  rename_i hK
  exact hK _ _ (HP.out _ _ ⟨p, 0, _, _, _, _, _, _, _, _, _, _, _, _, _, _, _, _, _, _, _, _, _, _, _, _, _, _, _, _, _, _, _, _, _, _, _, _, hp, .inl ⟨rfl, rfl, rfl⟩, rfl⟩)
end Go.Proofs.YtgfbflnhjpbceaaGreatDoor.Semver
namespace Go.Proofs.YtgfbflnhjpbceaaGreatDoor.Ident
open Go.RowKit Num

def digB (x : Int) : Bool := decide (48 ≤ x ∧ x ≤ 57)
def letB (x : Int) : Bool := decide ((65 ≤ x ∧ x ≤ 90) ∨ (97 ≤ x ∧ x ≤ 122))
theorem digB_yes {x : Int} (h : 48 ≤ x ∧ x ≤ 57) : digB x = true := decide_eq_true h
theorem digB_no {x : Int} (h : ¬ (48 ≤ x ∧ x ≤ 57)) : digB x = false := decide_eq_false h
theorem letB_yes {x : Int} (h : (65 ≤ x ∧ x ≤ 90) ∨ (97 ≤ x ∧ x ≤ 122)) : letB x = true := decide_eq_true h
theorem letB_no {x : Int} (h : ¬ ((65 ≤ x ∧ x ≤ 90) ∨ (97 ≤ x ∧ x ≤ 122))) : letB x = false := decide_eq_false h
theorem digB_at (b : UInt8) : digB (b.toNat : Int) = isDig b := by
 rw [Bool.eq_iff_iff, isDig_iff]; unfold digB; rw [decide_eq_true_eq]; omega
theorem letB_at (b : UInt8) : letB (b.toNat : Int) = isLet b := by
 rw [Bool.eq_iff_iff, isLet_iff]; unfold letB; rw [decide_eq_true_eq]; omega
def idB (x : Int) : Bool := digB x || letB x || x == 45
theorem idB_at (b : UInt8) : idB (b.toNat : Int) = isId b := by
 unfold idB isId; rw [digB_at, letB_at]; congr 1; rw [Bool.eq_iff_iff]; simp; omega
theorem fault_5 {s : List UInt8} (i : Nat) (pre : Bool) (h : s.length = 0) : fault s i pre = 5 := by unfold fault; rw [if_pos h]
theorem fault_4 {s : List UInt8} {i : Nat} (pre : Bool) (h0 : s.length ≠ 0) (h : 255 < s.length ∨ 16 ≤ i) : fault s i pre = 4 := by unfold fault; rw [if_neg h0, if_pos h]
theorem fault_3 {s : List UInt8} {i : Nat} {pre : Bool} (h0 : s.length ≠ 0) (h1 : ¬ (255 < s.length ∨ 16 ≤ i)) (h : pre = true ∧ numeric s = true ∧ isNum s = false) : fault s i pre = 3 := by
 unfold fault; rw [if_neg h0, if_neg h1, if_pos h]
theorem fault_0 {s : List UInt8} {i : Nat} {pre : Bool} (h0 : s.length ≠ 0) (h1 : ¬ (255 < s.length ∨ 16 ≤ i)) (h : ¬ (pre = true ∧ numeric s = true ∧ isNum s = false)) : fault s i pre = 0 := by
 unfold fault; rw [if_neg h0, if_neg h1, if_neg h]
theorem empty_iff (s : ByteArray) : s.toList.isEmpty = true ↔ s.size = 0 := by
 rw [Lib.toList_data, List.isEmpty_iff_length_eq_zero, ← Lib.size_eq]
theorem empty_no (s : ByteArray) : s.toList.isEmpty = false ↔ s.size ≠ 0 := by
 rw [← Bool.not_eq_true, empty_iff]
end Go.Proofs.YtgfbflnhjpbceaaGreatDoor.Ident
namespace Go.Proofs.YtgfbflnhjpbceaaGreatDoor.Ident
open Go.RowKit Num

theorem digit_any (x : Int) (w : World) (h0 : 0 ≤ x) (h1 : x ≤ 255) :
  Calls Tryz.prog 128 #[.int .u8 x] w fun e w' => e = .returned (.bool (digB x)) ∧ w = w' := by
 by_cases ha : 48 ≤ x
 ·by_cases hb : x ≤ 57
  ·have HF := Lib.hid (digB_yes ⟨ha, hb⟩)
   go_enter Tryz.func128, Tryz.ntmps128
   go_wp2
   go_ret
   exact ⟨by rw [HF.out]; rfl, rfl⟩
  ·have HF := Lib.hid (digB_no (x := x) (by omega))
   go_enter Tryz.func128, Tryz.ntmps128
   go_wp2
   go_ret
   exact ⟨by rw [HF.out]; rfl, rfl⟩
 ·have HF := Lib.hid (digB_no (x := x) (by omega))
  go_enter Tryz.func128, Tryz.ntmps128
  go_wp2
  go_ret
  exact ⟨by rw [HF.out]; rfl, rfl⟩
def NumcJ (w : World) (s : ByteArray) (a' : Act) (w' : World) : Prop :=
 w = w' ∧ ∃ (k : Nat) (u4 u5 u6 u7 u8 u9 u10 u11 u12 u13 u14 u15 u16 u17 u18 u19 u20 u21 u22 u23 : Value), k ≤ s.size ∧ (∀ j, j < k → isDig (s.data.toList.getD j 0) = true) ∧ a' = { tmps := #[.string s, undef, .bool false, .int .i64 k, u4, u5, u6, u7, u8, u9, u10, u11, u12, u13, u14, u15, u16, u17, u18, u19, u20, u21, u22, u23], defers := [] }
def NumcM (n : Nat) (a' : Act) (_ : World) : Nat := n - (intOf (a'.tmps.getD 3 undef)).toNat
theorem numeric_any (s : ByteArray) (w : World) (hs : s.size ≤ maxLen) :
  Calls Tryz.prog 126 #[.string s] w fun e w' => e = .returned (.bool (numeric s.data.toList)) ∧ w = w' := by
 unfold maxLen at hs
 have HL := Lib.hid (Lib.size_eq s)
 go_enter Tryz.func126, Tryz.ntmps126
 go_wp2
 refine wp_scope_back 0 (NumcJ w s) (NumcM s.size) rfl ?_ ?_
 ·rintro a' w' ⟨rfl, k, u4, u5, u6, u7, u8, u9, u10, u11, u12, u13, u14, u15, u16, u17, u18, u19, u20, u21, u22, u23, hk, hd, rfl⟩
  have HD := Lib.hid hd; clear hd
  by_cases hlt : k < s.size
  ·have hbd := byteAt_bd s.data.toList k
   have HX := Lib.hid (at_text s k hlt)
   have HI : Hid (isDig (s.data.toList.getD k 0) = digB (byteAt s.data.toList k)) := (digB_at _).symm
   rw [← HX.out] at hbd HI
   obtain ⟨hx0, hx1⟩ := hbd
   go_wp2_with fail
   refine (digit_any _ _ hx0 hx1).mono ?_
   rintro e w' ⟨rfl, rfl⟩
   cases h1 : digB (s[k].toNat : Int)
   ·have HS : Hid (run s.data.toList = k) := run_stop _ k (by rw [← HL.out]; omega) HD.out (.inr (by rw [HI.out]; exact h1))
    have HF : Hid (numeric s.data.toList = false) := (numeric_no _).2 fun hh => by rw [HS.out, ← HL.out] at hh; omega
    have H1 := Lib.hid h1; clear h1
    have hne : ((k : Int) == (s.size : Int)) = false := by simp; omega
    by_cases h0 : 0 < k
    ·go_wp2
     simp only [Exit.jump]
     go_ret
     exact ⟨by rw [HF.out]; rfl, rfl⟩
    ·go_wp2
     simp only [Exit.jump]
     go_ret
     exact ⟨by rw [HF.out]; rfl, rfl⟩
   ·have HN : Hid (∀ j, j < k + 1 → isDig (s.data.toList.getD j 0) = true) := fun j hj => by
     rcases Nat.lt_or_ge j k with hj1 | hj1
     ·exact HD.out j hj1
     ·obtain rfl : j = k := by omega
      rw [HI.out]; exact h1
    have H1 := Lib.hid h1; clear h1
    go_wp2
    go_step3
    rw [show ((k : Int) + 1) = ((k + 1 : Nat) : Int) from rfl]
    refine ⟨rfl, ⟨rfl, k + 1, _, _, _, _, _, _, _, _, _, _, _, _, _, _, _, _, _, _, _, _, by omega, HN.out, rfl⟩, ?_⟩
    simp [NumcM, intOf]; omega
  ·obtain rfl : k = s.size := by omega
   have HS : Hid (run s.data.toList = s.size) := run_stop _ s.size (by rw [← HL.out]; omega) HD.out (.inl HL.out)
   by_cases h0 : 0 < s.size
   ·have HF : Hid (numeric s.data.toList = true) := (numeric_iff _).2 ⟨by rw [← HL.out]; exact h0, by rw [HS.out, HL.out]⟩
    go_wp2
    simp only [Exit.jump]
    go_ret
    exact ⟨by rw [HF.out]; rfl, rfl⟩
   ·have HF : Hid (numeric s.data.toList = false) := (numeric_no _).2 fun hh => h0 (by rw [HL.out]; exact hh.1)
    go_wp2
    simp only [Exit.jump]
    go_ret
    exact ⟨by rw [HF.out]; rfl, rfl⟩
 ·intro HP
  go_wp2
  go_step3
  rename_i hK
  exact hK _ _ (HP.out _ _ ⟨rfl, 0, _, _, _, _, _, _, _, _, _, _, _, _, _, _, _, _, _, _, _, _, by omega, (fun j hj => by omega), rfl⟩)
end Go.Proofs.YtgfbflnhjpbceaaGreatDoor.Ident
namespace Go.Proofs.YtgfbflnhjpbceaaGreatDoor.Ident
open Go.RowKit Num

theorem letter_any (x : Int) (w : World) (h0 : 0 ≤ x) (h1 : x ≤ 255) :
  Calls Tryz.prog 129 #[.int .u8 x] w fun e w' => e = .returned (.bool (letB x)) ∧ w = w' := by
 by_cases ha : 65 ≤ x
 ·by_cases hb : x ≤ 90
  ·have HF := Lib.hid (letB_yes (.inl ⟨ha, hb⟩))
   go_enter Tryz.func129, Tryz.ntmps129
   go_wp2
   go_ret
   exact ⟨by rw [HF.out]; rfl, rfl⟩
  ·by_cases hc : 97 ≤ x
   ·by_cases hd : x ≤ 122
    ·have HF := Lib.hid (letB_yes (.inr ⟨hc, hd⟩))
     go_enter Tryz.func129, Tryz.ntmps129
     go_wp2
     go_ret
     exact ⟨by rw [HF.out]; rfl, rfl⟩
    ·have HF := Lib.hid (letB_no (x := x) (by omega))
     go_enter Tryz.func129, Tryz.ntmps129
     go_wp2
     go_ret
     exact ⟨by rw [HF.out]; rfl, rfl⟩
   ·have HF := Lib.hid (letB_no (x := x) (by omega))
    go_enter Tryz.func129, Tryz.ntmps129
    go_wp2
    go_ret
    exact ⟨by rw [HF.out]; rfl, rfl⟩
 ·have hc : ¬ 97 ≤ x := by omega
  have HF := Lib.hid (letB_no (x := x) (by omega))
  go_enter Tryz.func129, Tryz.ntmps129
  go_wp2
  go_ret
  exact ⟨by rw [HF.out]; rfl, rfl⟩
def LenJ (w : World) (A : Option Addr) (n c : Nat) (l : List UInt8) (a' : Act) (w' : World) : Prop :=
 w = w' ∧ ∃ (k : Nat) (u4 u5 u6 u7 u8 u9 u10 u11 u12 u13 u14 u15 u16 u17 u18 u19 u20 u21 u22 u23 u24 u25 u26 u27 u28 u29 u30 u31 : Value), k ≤ n ∧ (∀ j, j < k → isId (l.getD j 0) = true) ∧ a' = { tmps := #[.slice A n c, undef, .int .i64 0, .int .i64 k, u4, u5, u6, u7, u8, u9, u10, u11, u12, u13, u14, u15, u16, u17, u18, u19, u20, u21, u22, u23, u24, u25, u26, u27, u28, u29, u30, u31], defers := [] }
def LenM (n : Nat) (a' : Act) (_ : World) : Nat := n - (intOf (a'.tmps.getD 3 undef)).toNat
theorem length_any (A : Option Addr) (n c : Nat) (l : List UInt8) (w : World) (h : Row w A n l) :
  Calls Tryz.prog 105 #[.slice A n c] w fun e w' => e = .returned (.int .i64 (lead l)) ∧ w = w' := by
 obtain ⟨hl, hm, hc⟩ := h
 unfold maxLen at hm
 have HC := Lib.hid hc; clear hc
 have HL := Lib.hid hl; clear hl
 go_enter Tryz.func105, Tryz.ntmps105
 go_wp2
 refine wp_scope_back 0 (LenJ w A n c l) (LenM n) rfl ?_ ?_
 ·rintro a' w' ⟨rfl, k, u4, u5, u6, u7, u8, u9, u10, u11, u12, u13, u14, u15, u16, u17, u18, u19, u20, u21, u22, u23, u24, u25, u26, u27, u28, u29, u30, u31, hk, hd, rfl⟩
  have HD := Lib.hid hd; clear hd
  by_cases hlt : k < n
  ·obtain ⟨b, o, rfl, hb, hcell⟩ := HC.out (by omega)
   have hx := hcell k hlt
   clear hcell HC
   have hbd := byteAt_bd l k
   have HI : Hid (isId (l.getD k 0) = idB (byteAt l k)) := (idB_at _).symm
   generalize byteAt l k = x at hx hbd HI
   obtain ⟨hx0, hx1⟩ := hbd
   have HN : Hid (idB x = true → ∀ j, j < k + 1 → isId (l.getD j 0) = true) := fun hi j hj => by
    rcases Nat.lt_or_ge j k with hj1 | hj1
    ·exact HD.out j hj1
    ·obtain rfl : j = k := by omega
     rw [HI.out]; exact hi
   have HS : Hid (idB x = false → lead l = k) := fun hn => lead_stop l k (by rw [HL.out]; omega) HD.out (.inr (by rw [HI.out]; exact hn))
   go_wp2_with fail
   refine (digit_any _ _ hx0 hx1).mono ?_
   rintro e w' ⟨rfl, rfl⟩
   cases h1 : digB x
   ·have H1 := Lib.hid h1; clear h1
    go_wp2_with fail
    refine (letter_any _ _ hx0 hx1).mono ?_
    rintro e w' ⟨rfl, rfl⟩
    cases h2 : letB x
    ·have H2 := Lib.hid h2; clear h2
     by_cases h3 : x = 45
     ·have hb3 : (x == 45) = true := by simp [h3]
      have H3 := Lib.hid hb3
      have H4 := Lib.hid h3; clear h3
      go_wp2
      go_step3
      rw [show ((k : Int) + 1) = ((k + 1 : Nat) : Int) from rfl]
      refine ⟨rfl, ⟨rfl, k + 1, _, _, _, _, _, _, _, _, _, _, _, _, _, _, _, _, _, _, _, _, _, _, _, _, _, _, _, _, by omega, HN.out (by unfold idB; rw [H3.out]; simp), rfl⟩, ?_⟩
      simp [LenM, intOf]; omega
     ·have hb3 : (x == 45) = false := by simp [h3]
      have H3 := Lib.hid hb3
      clear h3
      go_wp2
      simp only [Exit.jump]
      go_ret
      exact ⟨ret_int (by rw [HS.out (by unfold idB; rw [H1.out, H2.out, H3.out]; rfl)]), rfl⟩
    ·have H2 := Lib.hid h2; clear h2
     go_wp2
     go_step3
     rw [show ((k : Int) + 1) = ((k + 1 : Nat) : Int) from rfl]
     refine ⟨rfl, ⟨rfl, k + 1, _, _, _, _, _, _, _, _, _, _, _, _, _, _, _, _, _, _, _, _, _, _, _, _, _, _, _, _, by omega, HN.out (by unfold idB; rw [H2.out]; simp), rfl⟩, ?_⟩
     simp [LenM, intOf]; omega
   ·have H1 := Lib.hid h1; clear h1
    go_wp2
    go_step3
    rw [show ((k : Int) + 1) = ((k + 1 : Nat) : Int) from rfl]
    refine ⟨rfl, ⟨rfl, k + 1, _, _, _, _, _, _, _, _, _, _, _, _, _, _, _, _, _, _, _, _, _, _, _, _, _, _, _, _, by omega, HN.out (by unfold idB; rw [H1.out]; rfl), rfl⟩, ?_⟩
    simp [LenM, intOf]; omega
  ·have HS : Hid (lead l = k) := lead_stop l k (by rw [HL.out]; omega) HD.out (.inl (by rw [HL.out]; omega))
   go_wp2
   simp only [Exit.jump]
   go_ret
   exact ⟨ret_int (by rw [HS.out]), rfl⟩
 ·intro HP
  go_wp2
  go_step3
  rename_i hK
  exact hK _ _ (HP.out _ _ ⟨rfl, 0, _, _, _, _, _, _, _, _, _, _, _, _, _, _, _, _, _, _, _, _, _, _, _, _, _, _, _, _, by omega, (fun j hj => by omega), rfl⟩)
theorem fault_any (s : ByteArray) (i : Nat) (pre : Bool) (w : World) (hs : s.size ≤ maxLen) (hi : i ≤ maxLen) :
  Calls Tryz.prog 104 #[.string s, .int .i64 i, .bool pre] w fun e w' => e = .returned (.int .i64 (fault s.data.toList i pre)) ∧ Below w.heap.size w w' := by
 have HS := Lib.hid hs
 unfold maxLen at hs hi
 have HL := Lib.hid (Lib.size_eq s)
 by_cases h0 : s.size = 0
 ·have HF := Lib.hid (fault_5 (s := s.data.toList) i pre (by rw [← HL.out]; exact h0))
  have hem := (empty_iff s).2 h0
  have H0 := Lib.hid h0; clear h0
  go_enter Tryz.func104, Tryz.ntmps104
  go_wp2
  go_ret
  exact ⟨by rw [HF.out]; rfl, Below.refl _ _⟩
 ·have hem := (empty_no s).2 h0
  have H0 : Hid (s.data.toList.length ≠ 0) := by unfold Hid; rw [← HL.out]; exact h0
  clear h0
  by_cases h1 : 255 < s.size
  ·have HF := Lib.hid (fault_4 (s := s.data.toList) (i := i) pre H0.out (.inl (by rw [← HL.out]; exact h1)))
   go_enter Tryz.func104, Tryz.ntmps104
   go_wp2
   go_ret
   exact ⟨by rw [HF.out]; rfl, Below.refl _ _⟩
  ·by_cases h2 : 16 ≤ i
   ·have HF := Lib.hid (fault_4 (s := s.data.toList) (i := i) pre H0.out (.inr h2))
    go_enter Tryz.func104, Tryz.ntmps104
    go_wp2
    go_ret
    exact ⟨by rw [HF.out]; rfl, Below.refl _ _⟩
   ·have H12 : Hid (¬ (255 < s.data.toList.length ∨ 16 ≤ i)) := by unfold Hid; rw [← HL.out]; omega
    cases pre
    ·have HF := Lib.hid (fault_0 (s := s.data.toList) (i := i) (pre := false) H0.out H12.out (by simp))
     go_enter Tryz.func104, Tryz.ntmps104
     go_wp2
     go_ret
     exact ⟨by rw [HF.out]; rfl, Below.refl _ _⟩
    ·cases h3 : numeric s.data.toList
     ·have HF := Lib.hid (fault_0 (s := s.data.toList) (i := i) (pre := true) H0.out H12.out (by simp [h3]))
      have H3 := Lib.hid h3; clear h3
      go_enter Tryz.func104, Tryz.ntmps104
      go_wp2_with fail
      refine (numeric_any s _ HS.out).mono ?_
      rintro e w' ⟨rfl, rfl⟩
      rw [H3.out]
      go_wp2
      go_ret
      exact ⟨by rw [HF.out]; rfl, Below.refl _ _⟩
     ·cases h4 : isNum s.data.toList
      ·have HF := Lib.hid (fault_3 (s := s.data.toList) (i := i) (pre := true) H0.out H12.out ⟨rfl, h3, h4⟩)
       have H3 := Lib.hid h3; clear h3
       have H4 := Lib.hid h4; clear h4
       go_enter Tryz.func104, Tryz.ntmps104
       go_wp2_with fail
       refine (numeric_any s _ HS.out).mono ?_
       rintro e w' ⟨rfl, rfl⟩
       rw [H3.out]
       go_wp2_with fail
       refine (is_any s _ HS.out).mono ?_
       rintro e w1 ⟨rfl, hb1⟩
       rw [H4.out]
       go_wp2
       go_ret
       exact ⟨by rw [HF.out]; rfl, hb1⟩
      ·have HF := Lib.hid (fault_0 (s := s.data.toList) (i := i) (pre := true) H0.out H12.out (by simp [h4]))
       have H3 := Lib.hid h3; clear h3
       have H4 := Lib.hid h4; clear h4
       go_enter Tryz.func104, Tryz.ntmps104
       go_wp2_with fail
       refine (numeric_any s _ HS.out).mono ?_
       rintro e w' ⟨rfl, rfl⟩
       rw [H3.out]
       go_wp2_with fail
       refine (is_any s _ HS.out).mono ?_
       rintro e w1 ⟨rfl, hb1⟩
       rw [H4.out]
       go_wp2
       go_ret
       exact ⟨by rw [HF.out]; rfl, hb1⟩
end Go.Proofs.YtgfbflnhjpbceaaGreatDoor.Ident
