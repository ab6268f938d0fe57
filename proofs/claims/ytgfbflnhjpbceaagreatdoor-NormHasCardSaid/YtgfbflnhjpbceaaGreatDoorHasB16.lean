/-
  What the theorem of the last text needs of these: RgOp, SvCore, IdRow. Conditions: as each theorem states.
-/
import Derived.Test.YtgfbflnhjpbceaaGreatDoorHasB1
import Derived.Test.YtgfbflnhjpbceaaGreatDoorHasB2
import Derived.Test.YtgfbflnhjpbceaaGreatDoorHasB4
import Derived.Test.YtgfbflnhjpbceaaGreatDoorHasB5
import Derived.Test.YtgfbflnhjpbceaaGreatDoorHasB15
set_option maxRecDepth 100000
set_option maxHeartbeats 25600000
namespace Go.Proofs.YtgfbflnhjpbceaaGreatDoor.Range
open Go.RowKit Num Ident Semver

def OpsTab (w : World) : Prop := ∀ i, i < 8 → w.cell? ⟨0, i, none⟩ = some (.string (mk (ops.getD i [])))
theorem OpsTab.keep {w w' : World} (h : OpsTab w) (k : Keep w w') : OpsTab w' := fun i hi => k.cell _ _ _ (h i hi) (.inl fun x e => by cases e)
theorem opFrom_at (s : List UInt8) (k : Nat) (hk : k < 8) : opFrom s (ops.drop k) ((k : Int) + 1) = if stands (ops.getD k []) s = true then ((k : Int) + 1, ops.getD k []) else opFrom s (ops.drop (k + 1)) (((k + 1 : Nat) : Int) + 1) := by
 have e : ops.drop k = ops.getD k [] :: ops.drop (k + 1) := by
  rw [List.drop_eq_getElem_cons (show k < ops.length from hk)]
  simp [List.getD, List.getElem?_eq_getElem (show k < ops.length from hk)]
 rw [e, opFrom]
 rfl
theorem ops_len (k : Nat) : (ops.getD k []).length ≤ 1000 := by
 unfold ops
 match k with
 | 0 | 1 | 2 | 3 | 4 | 5 | 6 | 7 => decide
 | k + 8 => exact Nat.zero_le _
def OpJ (w : World) (b : Nat) (A : Option Addr) (n c p : Nat) (s : List UInt8) (i : Value) (W : World) : Prop :=
 ∃ k : Nat, k ≤ 8 ∧ i = .int .i64 (k : Int) ∧ opFrom s (ops.drop k) ((k : Int) + 1) = opOf s ∧ Rd W b A n c p ∧ Moved b w W
theorem op_any (b : Nat) (A : Option Addr) (n c p : Nat) (l s : List UInt8) (w : World) (hR : Rd w b A n c p) (hr : Row w A n l) (hc : n ≤ c) (hs : Pl l p s) (ht : OpsTab w) :
  Calls Tryz.prog 157 #[.pointer (some ⟨b, 0, none⟩)] w fun e w' => e = .returned (.tuple #[.int .i64 (opOf s).1, .string (mk (opOf s).2)]) ∧ Rd w' b A n c p ∧ Moved b w w' := by
 have HR := Lib.hid hR
 have HRow := Lib.hid hr
 have HP := Lib.hid hs
 have HT := Lib.hid ht
 clear hR hr hs ht
 go_enter Tryz.func157, Tryz.ntmps157
 go_wp2
 go_loopw [5] (fun i W => OpJ w b A n c p s i W) (fun i _ => 8 - (intOf i).toNat)
 case atStart => exact ⟨0, by omega, rfl, rfl, HR.out, Moved.refl _ _⟩
 case round =>
  obtain ⟨k, hk, rfl, hop, hR1, hM1⟩ := hrel
  have HR1 := Lib.hid hR1
  have HM1 := Lib.hid hM1
  have HOp := Lib.hid hop
  have HK := Lib.hid (HR.out.keep hM1)
  have HT1 := Lib.hid (HT.out.keep HK.out)
  have HRow1 := Lib.hid (row_keep HRow.out HK.out)
  clear hR1 hM1 hop
  by_cases hlt : k < 8
  ·have hx := HT1.out k hlt
   have HSt := Lib.hid (opFrom_at s k hlt)
   have HC := Lib.hid (fun W (h1 : Rd W b A n c p) (h2 : Row W A n l) => stands_any b A n c p l s (ops.getD k []) W h1 h2 hc HP.out (ops_len k))
   generalize ops.getD k [] = t at hx HSt HC
   go_wp2_with fail
   refine (HC.out _ HR1.out HRow1.out).mono ?_
   rintro e w2 ⟨rfl, hR2, hM2⟩
   have HR2 := Lib.hid hR2
   have hx2 : w2.cell? ⟨0, k, none⟩ = some (.string (mk t)) := (HR1.out.keep hM2).cell _ _ _ hx (.inl fun x e => by cases e)
   have HM2 := Lib.hid (HM1.out.trans hM2)
   clear hR2 hM2
   cases hst : stands t s with
   | true =>
    have HF : Hid (opOf s = (1 + (k : Int), t)) := by
     have := HSt.out
     rw [hst, if_pos rfl] at this
     rw [Int.add_comm]; exact HOp.out.symm.trans this
    clear HSt hx
    go_wp2_with fail
    go_quiet (fail)
    go_wp2
    go_ret2
    rw [HF.out]
    exact ⟨rfl, HR2.out.drewN _, HM2.out.drewN _⟩
   | false =>
    have HF : Hid (opFrom s (ops.drop (k + 1)) (((k + 1 : Nat) : Int) + 1) = opOf s) := by
     have := HSt.out
     rw [hst, if_neg (by simp)] at this
     exact this.symm.trans HOp.out
    clear HSt hx
    go_wp2
    exact ⟨⟨k + 1, by omega, by go_num, HF.out, HR2.out, HM2.out⟩, by simp [intOf]; omega⟩
  ·have HF : Hid (opOf s = (5, [])) := by
    have h8 : k = 8 := by omega
    have := HOp.out
    rw [h8] at this
    exact this.symm
   have hk8 : k = 8 := by omega
   subst hk8
   go_wp2
   go_ret2
   rw [HF.out]
   exact ⟨rfl, HR1.out, HM1.out⟩
def FurPost (b : Nat) (A : Option Addr) (n c p : Nat) (l : List UInt8) (w : World) (f : Option (List UInt8)) (e : Ending) (w' : World) : Prop :=
 Moved b w w' ∧ match f with
  | some s' => e = .returned (.bool true) ∧ ∃ q, Pl l q s' ∧ Rd w' b A n c q
  | none => e = .returned (.bool false) ∧ Rd w' b A n c p
theorem furE_any (b : Nat) (A : Option Addr) (n c p : Nat) (l s : List UInt8) (w : World) (hR : Rd w b A n c p) (hr : Row w A n l) (hc : n ≤ c) (hs : Pl l p s) :
  Calls Tryz.prog 115 #[.pointer (some ⟨b, 0, none⟩)] w (FurPost b A n c p l w (furE s)) := by
 have HR := Lib.hid hR
 have HRow := Lib.hid hr
 have HP := Lib.hid hs
 have HFU : Hid (furE s = if stands [124, 124] s = true then some (blanks (s.drop 2)) else none) := rfl
 have HLen := Lib.hid (fun h => stands_len (t := [124, 124]) (s := s) h)
 clear hR hr hs
 go_enter Tryz.func115, Tryz.ntmps115
 go_wp2_with fail
 refine (stands_any b A n c p l s [124, 124] _ HR.out HRow.out hc HP.out (by decide)).mono ?_
 rintro e w1 ⟨rfl, hR1, hM1⟩
 have HR1 := Lib.hid hR1
 have HM1 := Lib.hid hM1
 have HRow1 := Lib.hid (row_keep HRow.out (HR.out.keep hM1))
 clear hR1 hM1
 cases hst : stands [124, 124] s with
 | true =>
  rw [hst] at HFU
  have HF : Hid (furE s = some (blanks (s.drop 2))) := HFU.out
  have h2 := HLen.out hst
  rw [HP.out.len, HRow.out.1] at h2
  have hpn := HP.out.le
  rw [HRow.out.1] at hpn
  have hk : p + 2 ≤ n := by simp at h2; omega
  clear h2
  go_wp2_with fail
  refine (pass_any b A n c p 2 l s _ HR1.out HRow1.out HP.out hk).mono ?_
  rintro e w2 ⟨rfl, q, hq, hR2, hM2⟩
  go_wp2
  go_ret
  rw [HF.out]
  exact ⟨HM1.out.trans hM2, rfl, q, hq, hR2⟩
 | false =>
  rw [hst] at HFU
  have HF : Hid (furE s = none) := HFU.out
  go_wp2
  go_ret
  rw [HF.out]
  exact ⟨HM1.out, rfl, HR1.out⟩
theorem furO_any (b : Nat) (A : Option Addr) (n c p : Nat) (l s : List UInt8) (w : World) (hR : Rd w b A n c p) (hr : Row w A n l) (hc : n ≤ c) (hs : Pl l p s) :
  Calls Tryz.prog 143 #[.pointer (some ⟨b, 0, none⟩)] w (FurPost b A n c p l w (furO s)) := by
 have HR := Lib.hid hR
 have HRow := Lib.hid hr
 have HP := Lib.hid hs
 have HFU : Hid (furO s = if stands [44] s = true then some (blanks (s.drop 1)) else if oneOf starts s = true then some s else none) := rfl
 have HLen := Lib.hid (fun h => stands_len (t := [44]) (s := s) h)
 clear hR hr hs
 go_enter Tryz.func143, Tryz.ntmps143
 go_wp2_with fail
 refine (stands_any b A n c p l s [44] _ HR.out HRow.out hc HP.out (by decide)).mono ?_
 rintro e w1 ⟨rfl, hR1, hM1⟩
 have HR1 := Lib.hid hR1
 have HM1 := Lib.hid hM1
 have HRow1 := Lib.hid (row_keep HRow.out (HR.out.keep hM1))
 clear hR1 hM1
 cases hst : stands [44] s with
 | true =>
  rw [hst] at HFU
  have HF : Hid (furO s = some (blanks (s.drop 1))) := HFU.out
  have h2 := HLen.out hst
  rw [HP.out.len, HRow.out.1] at h2
  have hpn := HP.out.le
  rw [HRow.out.1] at hpn
  have hk : p + 1 ≤ n := by simp at h2; omega
  clear h2
  go_wp2_with fail
  refine (pass_any b A n c p 1 l s _ HR1.out HRow1.out HP.out hk).mono ?_
  rintro e w2 ⟨rfl, q, hq, hR2, hM2⟩
  go_wp2
  go_ret
  rw [HF.out]
  exact ⟨HM1.out.trans hM2, rfl, q, hq, hR2⟩
 | false =>
  rw [hst] at HFU
  have HFU2 : Hid (furO s = if oneOf starts s = true then some s else none) := HFU.out
  clear HFU
  go_wp2_with fail
  refine (oneOf_any b A n c p l s starts _ HR1.out HRow1.out HP.out).mono ?_
  rintro e w2 ⟨rfl, hR2, hM2⟩
  have HM2 := Lib.hid (HM1.out.trans hM2)
  have HR2 := Lib.hid hR2
  clear hR2 hM2
  generalize oneOf starts s = x at HFU2
  go_wp2
  go_ret
  rw [HFU2.out]
  cases x with
  | true => exact ⟨HM2.out, rfl, p, HP.out, HR2.out⟩
  | false => exact ⟨HM2.out, rfl, HR2.out⟩
end Go.Proofs.YtgfbflnhjpbceaaGreatDoor.Range
namespace Go.Proofs.YtgfbflnhjpbceaaGreatDoor.Semver
open Go.RowKit Num Ident

theorem point_any (A : Option Addr) (n c : Nat) (l : List UInt8) (q : Nat) (w : World) (h : Row w A n l) (hq : q ≤ n) :
  Calls Tryz.prog 193 #[.slice A n c, .int .i64 q] w fun e w' => e = .returned (.int .i64 (point l q)) ∧ w = w' := by
 obtain ⟨hl, hm, hc⟩ := h
 unfold maxLen at hm
 have HC := Lib.hid hc; clear hc
 have HL := Lib.hid hl; clear hl
 by_cases h0 : q = n
 ·have HF := Lib.hid (point_end (l := l) (q := q) (by rw [HL.out]; exact h0))
  subst h0
  have hb : ((q : Int) == (q : Int)) = true := by simp
  go_enter Tryz.func193, Tryz.ntmps193
  go_wp2
  go_ret
  exact ⟨by rw [HF.out]; rfl, rfl⟩
 ·have hlt : q < n := by omega
  have hb : ((q : Int) == (n : Int)) = false := by simp; omega
  obtain ⟨b, o, rfl, hbl, hcell⟩ := HC.out (by omega)
  have hx := hcell q hlt
  clear hcell HC
  have HN := Lib.hid (point_no (l := l) (q := q) (by rw [HL.out]; exact h0))
  have HY := Lib.hid (point_yes (l := l) (q := q) (by rw [HL.out]; exact h0))
  have hbd := byteAt_bd l q
  generalize byteAt l q = x at hx hbd HN HY
  clear h0
  by_cases h46 : x = 46
  ·have HF := Lib.hid (HY.out h46)
   have h1 : (x != 46) = false := by simp [h46]
   clear h46 HN HY
   go_enter Tryz.func193, Tryz.ntmps193
   go_wp2
   go_ret
   exact ⟨by rw [HF.out]; rfl, rfl⟩
  ·have HF := Lib.hid (HN.out h46)
   have h1 : (x != 46) = true := by simp [h46]
   clear h46 HN HY
   go_enter Tryz.func193, Tryz.ntmps193
   go_wp2
   go_ret
   exact ⟨by rw [HF.out]; rfl, rfl⟩

def coreOut (k : Core) : Value := .tuple #[.agg #[.int .u64 (k.2.2.1 : Int), .int .u64 (k.2.2.2.1 : Int), .int .u64 (k.2.2.2.2 : Int)], .int .i64 (k.2.1 : Int), .int .i64 (k.1 : Int)]

def CoreAt (w : World) (l : List UInt8) (p q i : Nat) (w' : World) : Prop :=
 (i = 0 ∧ w' = (w.alloc (.cells #[.int .u64 0, .int .u64 0, .int .u64 0] 99)) ∧ core l q = core l p) ∨
 (i = 1 ∧ ∃ x : Nat, w' = (w.alloc (.cells #[.int .u64 (x : Int), .int .u64 0, .int .u64 0] 99)) ∧ core1 l x q = core l p) ∨
 (i = 2 ∧ ∃ x y : Nat, w' = (w.alloc (.cells #[.int .u64 (x : Int), .int .u64 (y : Int), .int .u64 0] 99)) ∧ core2 l x y q = core l p)
def CoreJ (w : World) (A : Option Addr) (n c : Nat) (l : List UInt8) (p : Nat) (a' : Act) (w' : World) : Prop :=
 ∃ (q i : Nat) (u8 u9 u10 u11 u12 u13 u14 u15 u16 u17 u18 u19 u20 u21 u22 u23 u24 u25 u26 u27 u28 u29 u30 u31 u32 u33 u34 u35 u36 u37 u38 u39 u40 u41 u42 u43 : Value), q ≤ n ∧ CoreAt w l p q i w' ∧
  a' = { tmps := #[.slice A n c, .int .i64 q, undef, undef, .pointer (some ⟨w.heap.size, 0, none⟩), .int .i64 0, .int .i64 0, .int .i64 i, u8, u9, u10, u11, u12, u13, u14, u15, u16, u17, u18, u19, u20, u21, u22, u23, u24, u25, u26, u27, u28, u29, u30, u31, u32, u33, u34, u35, u36, u37, u38, u39, u40, u41, u42, u43], defers := [] }
def CoreM (a' : Act) (_ : World) : Nat := 3 - (intOf (a'.tmps.getD 7 undef)).toNat

theorem readCore_any (A : Option Addr) (n c : Nat) (l : List UInt8) (p : Nat) (w : World) (h : Row w A n l) (hc : n ≤ c) (hp : p ≤ n) :
  Calls Tryz.prog 181 #[.slice A n c, .int .i64 p] w fun e w' => e = .returned (coreOut (core l p)) ∧ Below w.heap.size w w' := by
 have hm := h.2.1
 unfold maxLen at hm
 have HR := Lib.hid h
 have HL := Lib.hid h.1
 clear h
 go_enter Tryz.func181, Tryz.ntmps181
 go_wp2
 refine wp_scope_back 0 (CoreJ w A n c l p) CoreM rfl ?_ ?_
 ·rintro a' w1 ⟨q, i, u8, u9, u10, u11, u12, u13, u14, u15, u16, u17, u18, u19, u20, u21, u22, u23, u24, u25, u26, u27, u28, u29, u30, u31, u32, u33, u34, u35, u36, u37, u38, u39, u40, u41, u42, u43, hq, (⟨rfl, rfl, hQ⟩ | ⟨rfl, x, rfl, hQ⟩ | ⟨rfl, x, y, rfl, hQ⟩), rfl⟩
  all_goals
   have HQ := Lib.hid hQ
   clear hQ
  ·have HB : Hid (Below w.heap.size w (w.alloc (.cells #[.int .u64 0, .int .u64 0, .int .u64 0] 99))) := ((Below.refl w.heap.size w).alloc (Nat.le_refl _) _)
   have HPE := Lib.hid (parse_end l q (by rw [HL.out]; exact hq))
   obtain ⟨⟨v, m, f⟩, hp⟩ : ∃ t, parse l q = t := ⟨_, rfl⟩
   have HE : Hid (core l q = if f ≠ 0 then (f, q, 0, 0, 0) else after1 l v (q + m)) := by unfold Hid core; rw [hp]
   have HP : Hid (parseOut l q = .tuple #[.int .u64 (v : Int), .int .i64 (m : Int), .int .i64 (f : Int)]) := by unfold Hid parseOut; rw [hp]
   rw [hp] at HPE
   have hqm : q + m ≤ n := by have := HPE.out; rw [HL.out] at this; exact this
   clear hp HPE
   go_wp2_with fail
   refine (parse_any _ _ _ l q _ (HR.out.kept HB.out) hc).mono ?_
   rintro e w' ⟨rfl, rfl⟩
   rw [HP.out]
   by_cases h0 : f = 0
   ·subst h0
    have HE2 : Hid (core l q = after1 l v (q + m)) := HE.out.trans (if_neg (by simp))
    have HB2 : Hid (Below w.heap.size w (w.alloc (.cells #[.int .u64 (v : Int), .int .u64 0, .int .u64 0] 99))) := ((Below.refl w.heap.size w).alloc (Nat.le_refl _) _)
    clear HE
    go_wp2_with fail
    refine (point_any _ _ _ l (q + m) _ (HR.out.kept HB2.out) hqm).mono ?_
    rintro e w' ⟨rfl, rfl⟩
    have HPL := Lib.hid (point_lt (l := l) (q := q + m) (by rw [HL.out]; exact hqm))
    have HE3 : Hid (core l q = if point l (q + m) ≠ 0 then (point l (q + m), q + m, 0, 0, 0) else core1 l v (q + m + 1)) := HE2.out
    clear HE2
    generalize point l (q + m) = g at HPL HE3 ⊢
    by_cases h1 : g = 0
    ·subst h1
     have HE4 : Hid (core l q = core1 l v (q + m + 1)) := HE3.out.trans (if_neg (by simp))
     have hql : q + m + 1 ≤ n := by have := HPL.out rfl; rw [HL.out] at this; omega
     go_wp2
     go_step3
     rw [show ((q : Int) + (m : Int) + 1) = ((q + m + 1 : Nat) : Int) from rfl]
     refine ⟨rfl, ⟨q + m + 1, 1, _, _, _, _, _, _, _, _, _, _, _, _, _, _, _, _, _, _, _, _, _, _, _, _, _, _, _, _, _, _, _, _, _, _, _, _, hql, .inr (.inl ⟨rfl, v, rfl, HE4.out.symm.trans HQ.out⟩), rfl⟩, ?_⟩
     simp [CoreM, intOf]
    ·have HE4 : Hid (core l q = (g, q + m, 0, 0, 0)) := HE3.out.trans (if_pos h1)
     have hb1 : ((g : Int) != 0) = true := by simp [h1]
     have hb2 : ((g : Int) == 0) = false := by simp [h1]
     clear h1 HE3
     go_wp2
     simp only [Exit.jump]
     exact bodyPost_ret (v := coreOut (g, q + m, 0, 0, 0)) (by simp [coreOut, results, Tryz.results181, go_sem]) rfl ⟨by rw [← HQ.out, HE4.out], ((Below.refl w.heap.size w).alloc (Nat.le_refl _) _)⟩
   ·have HE2 : Hid (core l q = (f, q, 0, 0, 0)) := HE.out.trans (if_pos h0)
    have hb1 : ((f : Int) != 0) = true := by simp [h0]
    have hb2 : ((f : Int) == 0) = false := by simp [h0]
    clear h0 HE
    go_wp2
    simp only [Exit.jump]
    exact bodyPost_ret (v := coreOut (f, q, 0, 0, 0)) (by simp [coreOut, results, Tryz.results181, go_sem]) rfl ⟨by rw [← HQ.out, HE2.out], ((Below.refl w.heap.size w).alloc (Nat.le_refl _) _)⟩
  ·have HB : Hid (Below w.heap.size w (w.alloc (.cells #[.int .u64 (x : Int), .int .u64 0, .int .u64 0] 99))) := ((Below.refl w.heap.size w).alloc (Nat.le_refl _) _)
   have HPE := Lib.hid (parse_end l q (by rw [HL.out]; exact hq))
   obtain ⟨⟨v, m, f⟩, hp⟩ : ∃ t, parse l q = t := ⟨_, rfl⟩
   have HE : Hid (core1 l x q = if f ≠ 0 then (f, q, 0, 0, 0) else after2 l x v (q + m)) := by unfold Hid core1; rw [hp]
   have HP : Hid (parseOut l q = .tuple #[.int .u64 (v : Int), .int .i64 (m : Int), .int .i64 (f : Int)]) := by unfold Hid parseOut; rw [hp]
   rw [hp] at HPE
   have hqm : q + m ≤ n := by have := HPE.out; rw [HL.out] at this; exact this
   clear hp HPE
   go_wp2_with fail
   refine (parse_any _ _ _ l q _ (HR.out.kept HB.out) hc).mono ?_
   rintro e w' ⟨rfl, rfl⟩
   rw [HP.out]
   by_cases h0 : f = 0
   ·subst h0
    have HE2 : Hid (core1 l x q = after2 l x v (q + m)) := HE.out.trans (if_neg (by simp))
    have HB2 : Hid (Below w.heap.size w (w.alloc (.cells #[.int .u64 (x : Int), .int .u64 (v : Int), .int .u64 0] 99))) := ((Below.refl w.heap.size w).alloc (Nat.le_refl _) _)
    clear HE
    go_wp2_with fail
    refine (point_any _ _ _ l (q + m) _ (HR.out.kept HB2.out) hqm).mono ?_
    rintro e w' ⟨rfl, rfl⟩
    have HPL := Lib.hid (point_lt (l := l) (q := q + m) (by rw [HL.out]; exact hqm))
    have HE3 : Hid (core1 l x q = if point l (q + m) ≠ 0 then (point l (q + m), q + m, 0, 0, 0) else core2 l x v (q + m + 1)) := HE2.out
    clear HE2
    generalize point l (q + m) = g at HPL HE3 ⊢
    by_cases h1 : g = 0
    ·subst h1
     have HE4 : Hid (core1 l x q = core2 l x v (q + m + 1)) := HE3.out.trans (if_neg (by simp))
     have hql : q + m + 1 ≤ n := by have := HPL.out rfl; rw [HL.out] at this; omega
     go_wp2
     go_step3
     rw [show ((q : Int) + (m : Int) + 1) = ((q + m + 1 : Nat) : Int) from rfl]
     refine ⟨rfl, ⟨q + m + 1, 2, _, _, _, _, _, _, _, _, _, _, _, _, _, _, _, _, _, _, _, _, _, _, _, _, _, _, _, _, _, _, _, _, _, _, _, _, hql, .inr (.inr ⟨rfl, x, v, rfl, HE4.out.symm.trans HQ.out⟩), rfl⟩, ?_⟩
     simp [CoreM, intOf]
    ·have HE4 : Hid (core1 l x q = (g, q + m, 0, 0, 0)) := HE3.out.trans (if_pos h1)
     have hb1 : ((g : Int) != 0) = true := by simp [h1]
     have hb2 : ((g : Int) == 0) = false := by simp [h1]
     clear h1 HE3
     go_wp2
     simp only [Exit.jump]
     exact bodyPost_ret (v := coreOut (g, q + m, 0, 0, 0)) (by simp [coreOut, results, Tryz.results181, go_sem]) rfl ⟨by rw [← HQ.out, HE4.out], ((Below.refl w.heap.size w).alloc (Nat.le_refl _) _)⟩
   ·have HE2 : Hid (core1 l x q = (f, q, 0, 0, 0)) := HE.out.trans (if_pos h0)
    have hb1 : ((f : Int) != 0) = true := by simp [h0]
    have hb2 : ((f : Int) == 0) = false := by simp [h0]
    clear h0 HE
    go_wp2
    simp only [Exit.jump]
    exact bodyPost_ret (v := coreOut (f, q, 0, 0, 0)) (by simp [coreOut, results, Tryz.results181, go_sem]) rfl ⟨by rw [← HQ.out, HE2.out], ((Below.refl w.heap.size w).alloc (Nat.le_refl _) _)⟩
  ·have HB : Hid (Below w.heap.size w (w.alloc (.cells #[.int .u64 (x : Int), .int .u64 (y : Int), .int .u64 0] 99))) := ((Below.refl w.heap.size w).alloc (Nat.le_refl _) _)
   have HPE := Lib.hid (parse_end l q (by rw [HL.out]; exact hq))
   obtain ⟨⟨v, m, f⟩, hp⟩ : ∃ t, parse l q = t := ⟨_, rfl⟩
   have HE : Hid (core2 l x y q = if f ≠ 0 then (f, q, 0, 0, 0) else (0, q + m, x, y, v)) := by unfold Hid core2; rw [hp]
   have HP : Hid (parseOut l q = .tuple #[.int .u64 (v : Int), .int .i64 (m : Int), .int .i64 (f : Int)]) := by unfold Hid parseOut; rw [hp]
   rw [hp] at HPE
   have hqm : q + m ≤ n := by have := HPE.out; rw [HL.out] at this; exact this
   clear hp HPE
   go_wp2_with fail
   refine (parse_any _ _ _ l q _ (HR.out.kept HB.out) hc).mono ?_
   rintro e w' ⟨rfl, rfl⟩
   rw [HP.out]
   by_cases h0 : f = 0
   ·subst h0
    have HE2 : Hid (core2 l x y q = (0, q + m, x, y, v)) := HE.out.trans (if_neg (by simp))
    clear HE
    go_wp2
    simp only [Exit.jump]
    exact bodyPost_ret (v := coreOut (0, q + m, x, y, v)) (by simp [coreOut, results, Tryz.results181, go_sem]) rfl ⟨by rw [← HQ.out, HE2.out], ((Below.refl w.heap.size w).alloc (Nat.le_refl _) _)⟩
   ·have HE2 : Hid (core2 l x y q = (f, q, 0, 0, 0)) := HE.out.trans (if_pos h0)
    have hb1 : ((f : Int) != 0) = true := by simp [h0]
    have hb2 : ((f : Int) == 0) = false := by simp [h0]
    clear h0 HE
    go_wp2
    simp only [Exit.jump]
    exact bodyPost_ret (v := coreOut (f, q, 0, 0, 0)) (by simp [coreOut, results, Tryz.results181, go_sem]) rfl ⟨by rw [← HQ.out, HE2.out], ((Below.refl w.heap.size w).alloc (Nat.le_refl _) _)⟩
 ·intro HP
  go_wp2
  go_step3
  rename_i hK
  exact hK _ _ (HP.out _ _ ⟨p, 0, _, _, _, _, _, _, _, _, _, _, _, _, _, _, _, _, _, _, _, _, _, _, _, _, _, _, _, _, _, _, _, _, _, _, _, _, hp, .inl ⟨rfl, rfl, rfl⟩, rfl⟩)
end Go.Proofs.YtgfbflnhjpbceaaGreatDoor.Semver
namespace Go.Proofs.YtgfbflnhjpbceaaGreatDoor.Ident
open Go.RowKit Num

def Fresh (B : Nat) (A : Option Addr) (n : Nat) : Prop := 0 < n → ∃ b o, A = some ⟨b, o, none⟩ ∧ B ≤ b
theorem Fresh.none_ (B : Nat) (A : Option Addr) : Fresh B A 0 := fun h => absurd h (Nat.lt_irrefl _)
theorem Fresh.mono {B B' : Nat} {A : Option Addr} {n : Nat} (h : Fresh B A n) (hB : B' ≤ B) : Fresh B' A n := fun h0 => by
 obtain ⟨b, o, e, hb⟩ := h h0
 exact ⟨b, o, e, Nat.le_trans hB hb⟩
theorem Fresh.of_own {w : World} {base : Nat} {e : TypeId} {k : Nat} {A : Option Addr} {n c : Nat} {xs : List Value} (h : w.ownsRow base e k (.slice A n c) n xs) : Fresh base A n := fun h0 => by
 rcases h.2 with ⟨_, h1⟩ | ⟨g, cap, cur, hv, hg, _⟩
 ·omega
 ·injection hv with hv _ _
  exact ⟨g, 0, hv, hg⟩
def RowPostF (w : World) (r : Res) (e : Ending) (w' : World) : Prop :=
 ∃ A c, e = .returned (.tuple #[.slice A r.2.2.length c, .int .i64 (r.2.1 : Int), .int .i64 (r.1 : Int)]) ∧ r.2.2.length ≤ c ∧ SRow w' A r.2.2.length r.2.2 ∧ Below w.heap.size w w' ∧ Fresh w.heap.size A r.2.2.length
theorem RowPostF.bad {w w' : World} {f : Nat} (hb : Below w.heap.size w w') : RowPostF w (f, 0, []) (.returned (.tuple #[.slice none 0 0, .int .i64 0, .int .i64 (f : Int)])) w' :=
 ⟨none, 0, rfl, Nat.le_refl _, SRow.none_ _ _, hb, Fresh.none_ _ _⟩

theorem row_out (A : Option Addr) (n c : Nat) (l : List UInt8) (p : Int) (pre : Bool) (w : World) (h : Row w A n l) (ho : p < 0 ∨ (n : Int) < p) :
  Calls Tryz.prog 194 #[.slice A n c, .int .i64 p, .bool pre] w (RowPostF w (row l p pre)) := by
 have HE : Hid (row l p pre = (1, 0, [])) := by
  unfold Hid row; rw [if_pos (by rw [h.1]; exact ho)]
 rw [HE.out]
 clear h HE
 by_cases h0 : p < 0
 ·go_enter Tryz.func194, Tryz.ntmps194
  go_wp2
  refine wp_scope_back 0 (fun _ _ => False) (fun _ _ => 0) rfl (fun _ _ hF => hF.elim) ?_
  intro _
  go_wp2
  simp only [Exit.jump]
  go_ret3
  exact RowPostF.bad (f := 1) (Below.refl _ _)
 ·have h1 : (n : Int) < p := by omega
  clear ho
  go_enter Tryz.func194, Tryz.ntmps194
  go_wp2
  refine wp_scope_back 0 (fun _ _ => False) (fun _ _ => 0) rfl (fun _ _ hF => hF.elim) ?_
  intro _
  go_wp2
  simp only [Exit.jump]
  go_ret3
  exact RowPostF.bad (f := 1) (Below.refl _ _)

theorem go_step_bad {pre : Bool} {l s : List UInt8} {acc : List (List UInt8)} {k m : Nat} (hM : lead (l.drop k) = m) (hs : (l.drop k).take m = s) (hf : fault s acc.length pre ≠ 0) : go pre (l.drop k) [] acc k = (fault s acc.length pre, 0, []) := by
 subst hM; subst hs; exact go_stop pre _ acc k hf
theorem lead_end (l : List UInt8) (h : lead l < l.length) : isId (l.getD (lead l) 0) = false := by
 induction l with
 | nil => simp at h
 | cons b r ih =>
  by_cases hb : isId b = true
  ·rw [lead, if_pos hb] at h ⊢
   simpa using ih (by simpa using h)
  ·rw [lead, if_neg hb]; simpa using hb
theorem go_step_point {pre : Bool} {l s : List UInt8} {acc : List (List UInt8)} {k m : Nat} (hM : lead (l.drop k) = m) (hs : (l.drop k).take m = s) (hf : fault s acc.length pre = 0) (hlt : k + m < l.length) (hx : byteAt l (k + m) = 46) :
  go pre (l.drop k) [] acc k = go pre (l.drop (k + m + 1)) [] (acc ++ [s]) (k + m + 1) := by
 rw [go_lead, hM, hs, List.nil_append, List.drop_drop, drop_getD l (k + m) hlt]
 exact go_point (by unfold byteAt at hx; omega) hf
theorem go_step_end {pre : Bool} {l s : List UInt8} {acc : List (List UInt8)} {k m : Nat} (hM : lead (l.drop k) = m) (hs : (l.drop k).take m = s) (hf : fault s acc.length pre = 0) (h : l.length ≤ k + m ∨ byteAt l (k + m) ≠ 46) :
  go pre (l.drop k) [] acc k = (0, k + m, acc ++ [s]) := by
 have e : shut pre s acc (k + m) = (0, k + m, acc ++ [s]) := by unfold shut; rw [if_pos hf]
 rw [go_lead, hM, hs, List.nil_append, List.drop_drop]
 rcases Nat.lt_or_ge (k + m) l.length with hlt | hge
 ·rw [drop_getD l (k + m) hlt, go_else ?_ ?_, e]
  ·have h1 := lead_end (l.drop k) (by rw [hM, List.length_drop]; omega)
   rw [hM] at h1
   simpa [List.getD] using h1
  ·rcases h with h | h
   ·omega
   ·unfold byteAt at h; omega
 ·rw [List.drop_eq_nil_of_le hge, go, e]
theorem RowPostF.good {w w' : World} {n : Nat} {xs : List (List UInt8)} (hb : Below w.heap.size w w') {A : Option Addr} {c : Nat} (hc : xs.length ≤ c) (hr : SRow w' A xs.length xs) (hf : Fresh w.heap.size A xs.length) :
  RowPostF w (0, n, xs) (.returned (.tuple #[.slice A xs.length c, .int .i64 (n : Int), .int .i64 0])) w' :=
 ⟨A, c, rfl, hc, hr, hb, hf⟩

def RowJ (w : World) (A : Option Addr) (n c p : Nat) (pre : Bool) (R : Option Addr) (N C : Nat) (l : List UInt8) (a' : Act) (w' : World) : Prop :=
 ∃ (acc : List (List UInt8)) (k : Nat) (v : Value) (u10 u11 u12 u13 u14 u15 u16 u17 u18 u19 u20 u21 u22 u23 u24 u25 u26 u27 u28 u29 u30 u31 u32 u33 u34 u35 u36 u37 u38 u39 u40 u41 u42 u43 u44 u45 u46 u47 u48 u49 u50 u51 u52 u53 u54 u55 u56 u57 u58 u59 u60 u61 u62 : Value), Below w.heap.size w w' ∧ w'.ownsRow w.heap.size 9 1 v acc.length (strs acc) ∧ acc.length ≤ 16 ∧ k ≤ N ∧ go pre (l.drop k) [] acc k = go pre l [] [] 0 ∧
  a' = { tmps := #[.slice A n c, .int .i64 p, .bool pre, undef, undef, undef, v, .int .i64 k, .int .i64 0, .slice R N C, u10, u11, u12, u13, u14, u15, u16, u17, u18, u19, u20, u21, u22, u23, u24, u25, u26, u27, u28, u29, u30, u31, u32, u33, u34, u35, u36, u37, u38, u39, u40, u41, u42, u43, u44, u45, u46, u47, u48, u49, u50, u51, u52, u53, u54, u55, u56, u57, u58, u59, u60, u61, u62], defers := [] }
def RowM (N : Nat) (a' : Act) (_ : World) : Nat := N - (intOf (a'.tmps.getD 7 undef)).toNat

theorem row_in (A : Option Addr) (n c : Nat) (l0 : List UInt8) (p : Nat) (pre : Bool) (w : World) (h : Row w A n l0) (hc : n ≤ c) (hp : p ≤ n) :
  Calls Tryz.prog 194 #[.slice A n c, .int .i64 p, .bool pre] w (RowPostF w (row l0 p pre)) := by
 have hm := h.2.1
 unfold maxLen at hm
 have hp0 : ¬ (p : Int) < 0 := by omega
 have hp1 : ¬ n < p := by omega
 obtain ⟨R, hR⟩ : ∃ R, (if c = p then A else A.map (fun x => x.add p)) = R := ⟨_, rfl⟩
 obtain ⟨l, hl⟩ : ∃ l, l0.drop p = l := ⟨_, rfl⟩
 have HE : Hid (row l0 p pre = go pre l [] [] 0) := by
  unfold Hid row; rw [if_neg (by rw [h.1]; omega), Int.toNat_natCast, hl]
 have R1 : Row w R (n - p) l := hl ▸ Row.from_ h p c hp hc hR
 rw [HE.out]
 clear h HE hl
 obtain ⟨N, hN⟩ : ∃ N, n - p = N := ⟨_, rfl⟩
 obtain ⟨C, hC⟩ : ∃ C, c - p = C := ⟨_, rfl⟩
 have hNC : N ≤ C := by omega
 have hNm : N ≤ 9223372036854775807 := by omega
 rw [hN] at R1
 have HR1 := Lib.hid R1
 have HLen := Lib.hid R1.1
 clear R1
 go_enter Tryz.func194, Tryz.ntmps194
 go_wp2
 refine wp_scope_back 0 (RowJ w A n c p pre R N C l) (RowM N) rfl ?_ ?_
 ·rintro a' w1 ⟨acc, k, v, u10, u11, u12, u13, u14, u15, u16, u17, u18, u19, u20, u21, u22, u23, u24, u25, u26, u27, u28, u29, u30, u31, u32, u33, u34, u35, u36, u37, u38, u39, u40, u41, u42, u43, u44, u45, u46, u47, u48, u49, u50, u51, u52, u53, u54, u55, u56, u57, u58, u59, u60, u61, u62, hb1, hown, hacc, hk, hgo, rfl⟩
  have HRW := Lib.hid (HR1.out.kept hb1)
  obtain ⟨VA, VC, rfl, hvc, _⟩ := SRow.of_own hown
  clear hR hN hC
  obtain ⟨m, hM⟩ : ∃ m, lead (l.drop k) = m := ⟨_, rfl⟩
  have hkm : k + m ≤ N := by have := lead_le (l.drop k); rw [hM, List.length_drop, HLen.out] at this; omega
  obtain ⟨S, hS⟩ : ∃ S, (if C = k then R else R.map (fun x => x.add k)) = S := ⟨_, rfl⟩
  have RA := Row.from_ HRW.out k C hk hNC hS
  have RB := Row.part_ HRW.out k m C hkm hNC hS
  obtain ⟨s, hs⟩ : ∃ s, (l.drop k).take m = s := ⟨_, rfl⟩
  rw [hs] at RB
  have hsl := RB.1
  have htx := run_text RB (C - k)
  have HA := Lib.hid RA
  have HM := Lib.hid hM
  have HSl := Lib.hid hsl
  have HSS := Lib.hid hs
  have HB1 := Lib.hid hb1
  have HO := Lib.hid hown
  have HG := Lib.hid hgo
  clear RA RB hM hsl hs hb1 hown hgo
  have hz1 := HB1.out.size
  go_wp2_with fail
  refine (length_any _ _ _ _ _ HA.out).mono ?_
  rintro e w' ⟨rfl, rfl⟩
  rw [HM.out]
  go_wp2_with fail
  refine (fault_any (mk s) acc.length pre _ (by rw [mk_size, HSl.out]; unfold maxLen; omega) (by unfold maxLen; omega)).mono ?_
  rintro e w2 ⟨rfl, hb2⟩
  rw [mk_list]
  have HBD := Lib.hid (go_step_bad (pre := pre) (acc := acc) HM.out HSS.out)
  have HPT := Lib.hid (fun hf => go_step_point (pre := pre) (acc := acc) HM.out HSS.out hf)
  have HEN := Lib.hid (fun hf => go_step_end (pre := pre) (acc := acc) HM.out HSS.out hf)
  have HPL0 : Hid (fault s acc.length pre = 0 → acc.length + 1 ≤ 16) := fun h => (fault_pos h).2.2
  obtain ⟨f, hf⟩ : ∃ f, fault s acc.length pre = f := ⟨_, rfl⟩
  rw [hf] at HBD HPT HEN HPL0 ⊢
  clear hf
  by_cases hf0 : f = 0
  ·subst hf0
   have HPL := Lib.hid (HPL0.out rfl)
   have HPT2 := Lib.hid (HPT.out rfl)
   have HEN2 := Lib.hid (HEN.out rfl)
   clear HBD HPT HEN
   have hz2 := hb2.size
   have HO2 : Hid ((w2.alloc (.cells #[.string (mk s)] 9)).ownsRow w.heap.size 9 1 (.slice VA acc.length VC) acc.length (strs acc)) := (own_below HO.out hb2).alloc _
   have HB2 := Lib.hid ((HB1.out.trans (hb2.mono hz1)).alloc (Nat.le_trans hz1 hz2) (.cells #[.string (mk s)] 9))
   have hms : (mk s).size = m := HSl.out
   have hacc2 : acc.length + 1 ≤ 16 := HPL.out
   clear hS htx
   by_cases hlt : k + m < N
   ·obtain ⟨b, o, rfl, hb, hcell⟩ := HR1.out.2.2 (by omega)
    have HX := Lib.hid (hcell (k + m) hlt)
    have hbd := byteAt_bd l (k + m)
    clear hcell
    have HPT3 := Lib.hid (fun h => HPT2.out (by rw [HLen.out]; exact hlt) h)
    have HEN3 := Lib.hid (fun h => HEN2.out (.inr h))
    clear HPT2 HEN2 HRW
    generalize byteAt l (k + m) = x at HX hbd HPT3 HEN3
    by_cases h46 : x = 46
    ·subst h46
     have HPT4 := Lib.hid (HPT3.out rfl)
     clear HPT3 HEN3
     go_wp2_with (first
      | (at_builtin; refine wpList_append_strs _ rfl _ _ rfl w.heap.size _ acc.length acc rfl HO2.out (some ⟨w2.heap.size, 0, none⟩) 1 1 [s] rfl (SRow.one w2 s) (fun h => by cases h) (by omega) (by simp; omega) ?_; intro v3 w3 ho3 hb3; obtain ⟨VA3, VC3, rfl, hvc3, hr3⟩ := SRow.of_own ho3; have HB3 := Lib.hid (HB2.out.trans hb3); have HO3 := Lib.hid ho3; have HR3 := Lib.hid hr3; clear ho3 hb3 hr3; have hx := (HB3.out.cell (p := ⟨b, o + (k + m), none⟩) hb).trans HX.out)
      | fail)
     go_step3
     rw [show ((k : Int) + (m : Int) + 1) = ((k + m + 1 : Nat) : Int) from rfl]
     refine ⟨rfl, ⟨acc ++ [s], k + m + 1, .slice VA3 (acc.length + 1) VC3, _, _, _, _, _, _, _, _, _, _, _, _, _, _, _, _, _, _, _, _, _, _, _, _, _, _, _, _, _, _, _, _, _, _, _, _, _, _, _, _, _, _, _, _, _, _, _, _, _, _, _, _, _, HB3.out, ?_, ?_, by omega, ?_, rfl⟩, ?_⟩
     ·rw [List.length_append]; exact HO3.out
     ·rw [List.length_append]; exact hacc2
     ·rw [← HPT4.out]; exact HG.out
     ·simp [RowM, intOf]; omega
    ·have HEN4 := Lib.hid (HEN3.out h46)
     have hb46 : (x == 46) = false := by simp [h46]
     clear HPT3 HEN3 h46
     go_wp2_with (first
      | (at_builtin; refine wpList_append_strs _ rfl _ _ rfl w.heap.size _ acc.length acc rfl HO2.out (some ⟨w2.heap.size, 0, none⟩) 1 1 [s] rfl (SRow.one w2 s) (fun h => by cases h) (by omega) (by simp; omega) ?_; intro v3 w3 ho3 hb3; obtain ⟨VA3, VC3, rfl, hvc3, hr3⟩ := SRow.of_own ho3; have HB3 := Lib.hid (HB2.out.trans hb3); have HO3 := Lib.hid ho3; have HR3 := Lib.hid hr3; clear ho3 hb3 hr3; have hx := (HB3.out.cell (p := ⟨b, o + (k + m), none⟩) hb).trans HX.out)
      | fail)
     simp only [Exit.jump]
     go_ret3
     rw [← HG.out, HEN4.out]
     have e1 : (acc ++ [s]).length = acc.length + 1 := by simp
     have := RowPostF.good (n := k + m) HB3.out (A := VA3) (c := VC3) (xs := acc ++ [s]) (by rw [e1]; exact hvc3) (by rw [e1]; exact HR3.out) (by rw [e1]; exact Fresh.of_own HO3.out)
     rw [e1] at this
     exact this
   ·have HEN4 := Lib.hid (HEN2.out (.inl (by rw [HLen.out]; omega)))
    clear HPT2 HEN2 HRW
    go_wp2_with (first
     | (at_builtin; refine wpList_append_strs _ rfl _ _ rfl w.heap.size _ acc.length acc rfl HO2.out (some ⟨w2.heap.size, 0, none⟩) 1 1 [s] rfl (SRow.one w2 s) (fun h => by cases h) (by omega) (by simp; omega) ?_; intro v3 w3 ho3 hb3; obtain ⟨VA3, VC3, rfl, hvc3, hr3⟩ := SRow.of_own ho3; have HB3 := Lib.hid (HB2.out.trans hb3); have HO3 := Lib.hid ho3; have HR3 := Lib.hid hr3; clear ho3 hb3 hr3)
     | fail)
    simp only [Exit.jump]
    go_ret3
    rw [← HG.out, HEN4.out]
    have e1 : (acc ++ [s]).length = acc.length + 1 := by simp
    have := RowPostF.good (n := k + m) HB3.out (A := VA3) (c := VC3) (xs := acc ++ [s]) (by rw [e1]; exact hvc3) (by rw [e1]; exact HR3.out) (by rw [e1]; exact Fresh.of_own HO3.out)
    rw [e1] at this
    exact this
  ·have HBD2 := Lib.hid (HBD.out hf0)
   have HB2 := Lib.hid (HB1.out.trans (hb2.mono hz1))
   go_wp2
   simp only [Exit.jump]
   go_ret3
   rw [← HG.out, HBD2.out]
   exact RowPostF.bad HB2.out
 ·intro HP
  go_wp2
  go_step3
  rename_i hK
  exact hK _ _ (HP.out _ _ ⟨[], 0, .slice none 0 0, _, _, _, _, _, _, _, _, _, _, _, _, _, _, _, _, _, _, _, _, _, _, _, _, _, _, _, _, _, _, _, _, _, _, _, _, _, _, _, _, _, _, _, _, _, _, _, _, _, _, _, _, _, Below.refl _ _, World.ownsRow_nil _ _ _ _, by simp, by omega, rfl, rfl⟩)

theorem row_anyF (A : Option Addr) (n c : Nat) (l : List UInt8) (p : Int) (pre : Bool) (w : World) (h : Row w A n l) (hc : n ≤ c) :
  Calls Tryz.prog 194 #[.slice A n c, .int .i64 p, .bool pre] w (RowPostF w (row l p pre)) := by
 by_cases ho : p < 0 ∨ (n : Int) < p
 ·exact row_out A n c l p pre w h ho
 ·obtain ⟨k, rfl⟩ := Int.eq_ofNat_of_zero_le (show 0 ≤ p by omega)
  exact row_in A n c l k pre w h hc (by omega)
end Go.Proofs.YtgfbflnhjpbceaaGreatDoor.Ident
