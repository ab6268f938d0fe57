/-
  What the program's small functions of identifiers answer: digit, letter, length, numeric, fault. Conditions: the slice reads as the list of bytes l; the texts' lengths are those that the form allows.
  Which rows are good (ident.Good), for any rows. Conditions: the slice reads as the list xs; the texts' lengths are those that the form allows.
  A row's text (ident.Text). Conditions: the slice reads as the list xs; at most 40 texts of at most 300 bytes.
  A number's numeral (num.Text, and the document's own ferruleref01.Text): its decimal digits, without a needless 0; it is a numeral, and its number is the number. Condition: the library's table of powers of ten reads as it is written.
  A version's text (semver.writeRow, semver.Text). Conditions: the rows read as the lists pre and build, few and short; the library's table of powers of ten reads as it is written.
  Which versions are right (semver.held, semver.Good). Conditions: the rows read as the lists pre and build; the texts' lengths are those that the form allows.
  The number of digits if it is held (num.number), and num.Parse, for any bytes in memory. Condition: the slice reads as the list of bytes l.
  Versions and their texts, as plain lists: what is read is right, and its text is what was read; a right version's text is read as it. No condition.
  What is read of an expression is right, and how long its text is at most. Plain lists; no condition.
  How many ranges a range is; so many at most that its text's bytes bound it, where it is right. A goto back whose measure is the datum's, not the frame's. Plain; no condition.
  A right range's text is read as the range. Plain lists; no condition.
  How versions stand, by precedence and in the full order; the ends of a version. Plain facts: both are orders; builds don't count in the one; a version stands ahead of its ends, the first of a core ahead of none of its numbers.
  Whether two arrays of three numbers are the same: what the operation answers. No condition.
  How numerals compare (num.Compare), for any texts. Condition: the texts' lengths are those that the form allows.
  How two texts stand as identifiers (ident.Compare), for any texts. Condition: the texts' lengths are those that the form allows.
  How two rows of texts stand (ident.Rows, by its generic function), for any rows. Conditions: the slices read as the lists xs and ys; the texts' lengths are those that the form allows.
  How two numbers stand (cmp.Compare at uint64), a version's numbers (prec.coreOf), how two versions' numbers stand (prec.cores), how rows ahead of release stand (prec.releases). Conditions: the rows read as the lists xs and ys; the texts' lengths are those that the form allows.
-/
import Derived.Test.YtgfbflnhjpbceaaGreatDoorPartsB1
import Derived.StillTailTactics
import Derived.Deep.CutBlock
import Derived.Deep.DeepCutAuto
import Derived.Deep.RegionHeld3
import Derived.Test.YtgfbflnhjpbceaaGreatDoorShelfJoin
import Derived.Test.YtgfbflnhjpbceaaGreatDoorShelf
import Derived.Lib.ItoaMem
import Derived.Lib.ItoaLen
import Derived.Test.YtgfbflnhjpbceaaGreatDoorShelfBuild
import Derived.Test.YtgfbflnhjpbceaaGreatDoorChecked
import Derived.WalkKit
import Derived.ChangeKeysEq
import Derived.Laws.StructEq
import Derived.Test.YtgfbflnhjpbceaaGreatDoorShelfTrim
namespace Go.Proofs.YtgfbflnhjpbceaaGreatDoor.Ident
open Go.RowKit Num

set_option maxRecDepth 100000 in
set_option maxHeartbeats 400000 in
theorem letter_any (x : Int) (w : World) (h0 : 0 ≤ x) (h1 : x ≤ 255) :
    Calls Tryz.prog 129 #[.int .u8 x] w fun e w' => e = .returned (.bool (letB x)) ∧ w = w' := by
  by_cases ha : 65 ≤ x
  · by_cases hb : x ≤ 90
    · have HF := Lib.hid (letB_yes (.inl ⟨ha, hb⟩))
      go_enter Tryz.func129, Tryz.ntmps129
      go_wp2
      go_ret
      exact ⟨by rw [HF.out]; rfl, rfl⟩
    · by_cases hc : 97 ≤ x
      · by_cases hd : x ≤ 122
        · have HF := Lib.hid (letB_yes (.inr ⟨hc, hd⟩))
          go_enter Tryz.func129, Tryz.ntmps129
          go_wp2
          go_ret
          exact ⟨by rw [HF.out]; rfl, rfl⟩
        · have HF := Lib.hid (letB_no (x := x) (by omega))
          go_enter Tryz.func129, Tryz.ntmps129
          go_wp2
          go_ret
          exact ⟨by rw [HF.out]; rfl, rfl⟩
      · have HF := Lib.hid (letB_no (x := x) (by omega))
        go_enter Tryz.func129, Tryz.ntmps129
        go_wp2
        go_ret
        exact ⟨by rw [HF.out]; rfl, rfl⟩
  · have hc : ¬ 97 ≤ x := by omega
    have HF := Lib.hid (letB_no (x := x) (by omega))
    go_enter Tryz.func129, Tryz.ntmps129
    go_wp2
    go_ret
    exact ⟨by rw [HF.out]; rfl, rfl⟩
def LenJ (w : World) (A : Option Addr) (n c : Nat) (l : List UInt8) (a' : Act) (w' : World) : Prop :=
  w = w' ∧ ∃ (k : Nat) (u4 u5 u6 u7 u8 u9 u10 u11 u12 u13 u14 u15 u16 u17 u18 u19 u20 u21 u22 u23 u24 u25 u26 u27 u28 u29 u30 u31 : Value), k ≤ n ∧ (∀ j, j < k → isId (l.getD j 0) = true) ∧ a' = { tmps := #[.slice A n c, undef, .int .i64 0, .int .i64 k, u4, u5, u6, u7, u8, u9, u10, u11, u12, u13, u14, u15, u16, u17, u18, u19, u20, u21, u22, u23, u24, u25, u26, u27, u28, u29, u30, u31], defers := [] }
def LenM (n : Nat) (a' : Act) (_ : World) : Nat := n - (intOf (a'.tmps.getD 3 undef)).toNat
set_option maxRecDepth 100000 in
set_option maxHeartbeats 800000 in
theorem length_any (A : Option Addr) (n c : Nat) (l : List UInt8) (w : World) (h : Row w A n l) :
    Calls Tryz.prog 105 #[.slice A n c] w fun e w' => e = .returned (.int .i64 (lead l)) ∧ w = w' := by
  obtain ⟨hl, hm, hc⟩ := h
  unfold maxLen at hm
  have HC := Lib.hid hc; clear hc
  have HL := Lib.hid hl; clear hl
  go_enter Tryz.func105, Tryz.ntmps105
  go_wp2
  refine wp_scope_back 0 (LenJ w A n c l) (LenM n) rfl ?_ ?_
  · rintro a' w' ⟨rfl, k, u4, u5, u6, u7, u8, u9, u10, u11, u12, u13, u14, u15, u16, u17, u18, u19, u20, u21, u22, u23, u24, u25, u26, u27, u28, u29, u30, u31, hk, hd, rfl⟩
    have HD := Lib.hid hd; clear hd
    by_cases hlt : k < n
    · obtain ⟨b, o, rfl, hb, hcell⟩ := HC.out (by omega)
      have hx := hcell k hlt
      clear hcell HC
      have hbd := byteAt_bd l k
      have HI : Hid (isId (l.getD k 0) = idB (byteAt l k)) := (idB_at _).symm
      generalize byteAt l k = x at hx hbd HI
      obtain ⟨hx0, hx1⟩ := hbd
      have HN : Hid (idB x = true → ∀ j, j < k + 1 → isId (l.getD j 0) = true) := fun hi j hj => by
        rcases Nat.lt_or_ge j k with hj1 | hj1
        · exact HD.out j hj1
        · obtain rfl : j = k := by omega
          rw [HI.out]; exact hi
      have HS : Hid (idB x = false → lead l = k) := fun hn => lead_stop l k (by rw [HL.out]; omega) HD.out (.inr (by rw [HI.out]; exact hn))
      go_wp2_with fail
      refine (digit_any _ _ hx0 hx1).mono ?_
      rintro e w' ⟨rfl, rfl⟩
      cases h1 : digB x
      · have H1 := Lib.hid h1; clear h1
        go_wp2_with fail
        refine (letter_any _ _ hx0 hx1).mono ?_
        rintro e w' ⟨rfl, rfl⟩
        cases h2 : letB x
        · have H2 := Lib.hid h2; clear h2
          by_cases h3 : x = 45
          · have hb3 : (x == 45) = true := by simp [h3]
            have H3 := Lib.hid hb3
            have H4 := Lib.hid h3; clear h3
            go_wp2
            go_step3
            rw [show ((k : Int) + 1) = ((k + 1 : Nat) : Int) from rfl]
            refine ⟨rfl, ⟨rfl, k + 1, _, _, _, _, _, _, _, _, _, _, _, _, _, _, _, _, _, _, _, _, _, _, _, _, _, _, _, _, by omega, HN.out (by unfold idB; rw [H3.out]; simp), rfl⟩, ?_⟩
            simp [LenM, intOf]; omega
          · have hb3 : (x == 45) = false := by simp [h3]
            have H3 := Lib.hid hb3
            clear h3
            go_wp2
            simp only [Exit.jump]
            go_ret
            exact ⟨ret_int (by rw [HS.out (by unfold idB; rw [H1.out, H2.out, H3.out]; rfl)]), rfl⟩
        · have H2 := Lib.hid h2; clear h2
          go_wp2
          go_step3
          rw [show ((k : Int) + 1) = ((k + 1 : Nat) : Int) from rfl]
          refine ⟨rfl, ⟨rfl, k + 1, _, _, _, _, _, _, _, _, _, _, _, _, _, _, _, _, _, _, _, _, _, _, _, _, _, _, _, _, by omega, HN.out (by unfold idB; rw [H2.out]; simp), rfl⟩, ?_⟩
          simp [LenM, intOf]; omega
      · have H1 := Lib.hid h1; clear h1
        go_wp2
        go_step3
        rw [show ((k : Int) + 1) = ((k + 1 : Nat) : Int) from rfl]
        refine ⟨rfl, ⟨rfl, k + 1, _, _, _, _, _, _, _, _, _, _, _, _, _, _, _, _, _, _, _, _, _, _, _, _, _, _, _, _, by omega, HN.out (by unfold idB; rw [H1.out]; rfl), rfl⟩, ?_⟩
        simp [LenM, intOf]; omega
    · have HS : Hid (lead l = k) := lead_stop l k (by rw [HL.out]; omega) HD.out (.inl (by rw [HL.out]; omega))
      go_wp2
      simp only [Exit.jump]
      go_ret
      exact ⟨ret_int (by rw [HS.out]), rfl⟩
  · intro HP
    go_wp2
    go_step3
    rename_i hK
    exact hK _ _ (HP.out _ _ ⟨rfl, 0, _, _, _, _, _, _, _, _, _, _, _, _, _, _, _, _, _, _, _, _, _, _, _, _, _, _, _, _, by omega, (fun j hj => by omega), rfl⟩)
set_option maxRecDepth 100000 in
set_option maxHeartbeats 800000 in
theorem fault_any (s : ByteArray) (i : Nat) (pre : Bool) (w : World) (hs : s.size ≤ maxLen) (hi : i ≤ maxLen) :
    Calls Tryz.prog 104 #[.string s, .int .i64 i, .bool pre] w fun e w' => e = .returned (.int .i64 (fault s.data.toList i pre)) ∧ Below w.heap.size w w' := by
  have HS := Lib.hid hs
  unfold maxLen at hs hi
  have HL := Lib.hid (Lib.size_eq s)
  by_cases h0 : s.size = 0
  · have HF := Lib.hid (fault_5 (s := s.data.toList) i pre (by rw [← HL.out]; exact h0))
    have hem := (empty_iff s).2 h0
    have H0 := Lib.hid h0; clear h0
    go_enter Tryz.func104, Tryz.ntmps104
    go_wp2
    go_ret
    exact ⟨by rw [HF.out]; rfl, Below.refl _ _⟩
  · have hem := (empty_no s).2 h0
    have H0 : Hid (s.data.toList.length ≠ 0) := by unfold Hid; rw [← HL.out]; exact h0
    clear h0
    by_cases h1 : 255 < s.size
    · have HF := Lib.hid (fault_4 (s := s.data.toList) (i := i) pre H0.out (.inl (by rw [← HL.out]; exact h1)))
      go_enter Tryz.func104, Tryz.ntmps104
      go_wp2
      go_ret
      exact ⟨by rw [HF.out]; rfl, Below.refl _ _⟩
    · by_cases h2 : 16 ≤ i
      · have HF := Lib.hid (fault_4 (s := s.data.toList) (i := i) pre H0.out (.inr h2))
        go_enter Tryz.func104, Tryz.ntmps104
        go_wp2
        go_ret
        exact ⟨by rw [HF.out]; rfl, Below.refl _ _⟩
      · have H12 : Hid (¬ (255 < s.data.toList.length ∨ 16 ≤ i)) := by unfold Hid; rw [← HL.out]; omega
        cases pre
        · have HF := Lib.hid (fault_0 (s := s.data.toList) (i := i) (pre := false) H0.out H12.out (by simp))
          go_enter Tryz.func104, Tryz.ntmps104
          go_wp2
          go_ret
          exact ⟨by rw [HF.out]; rfl, Below.refl _ _⟩
        · cases h3 : numeric s.data.toList
          · have HF := Lib.hid (fault_0 (s := s.data.toList) (i := i) (pre := true) H0.out H12.out (by simp [h3]))
            have H3 := Lib.hid h3; clear h3
            go_enter Tryz.func104, Tryz.ntmps104
            go_wp2_with fail
            refine (numeric_any s _ HS.out).mono ?_
            rintro e w' ⟨rfl, rfl⟩
            rw [H3.out]
            go_wp2
            go_ret
            exact ⟨by rw [HF.out]; rfl, Below.refl _ _⟩
          · cases h4 : isNum s.data.toList
            · have HF := Lib.hid (fault_3 (s := s.data.toList) (i := i) (pre := true) H0.out H12.out ⟨rfl, h3, h4⟩)
              have H3 := Lib.hid h3; clear h3
              have H4 := Lib.hid h4; clear h4
              go_enter Tryz.func104, Tryz.ntmps104
              go_wp2_with fail
              refine (numeric_any s _ HS.out).mono ?_
              rintro e w' ⟨rfl, rfl⟩
              rw [H3.out]
              go_wp2_with fail
              refine (is_any s _ HS.out).mono ?_
              rintro e w1 ⟨rfl, hb1⟩
              rw [H4.out]
              go_wp2
              go_ret
              exact ⟨by rw [HF.out]; rfl, hb1⟩
            · have HF := Lib.hid (fault_0 (s := s.data.toList) (i := i) (pre := true) H0.out H12.out (by simp [h4]))
              have H3 := Lib.hid h3; clear h3
              have H4 := Lib.hid h4; clear h4
              go_enter Tryz.func104, Tryz.ntmps104
              go_wp2_with fail
              refine (numeric_any s _ HS.out).mono ?_
              rintro e w' ⟨rfl, rfl⟩
              rw [H3.out]
              go_wp2_with fail
              refine (is_any s _ HS.out).mono ?_
              rintro e w1 ⟨rfl, hb1⟩
              rw [H4.out]
              go_wp2
              go_ret
              exact ⟨by rw [HF.out]; rfl, hb1⟩
end Go.Proofs.YtgfbflnhjpbceaaGreatDoor.Ident

namespace Go.Proofs.YtgfbflnhjpbceaaGreatDoor.Ident
open Go.RowKit Num

def GoodJ (w : World) (A : Option Addr) (n c : Nat) (pre : Bool) (xs : List (List UInt8)) (a' : Act) (w' : World) : Prop :=
  ∃ (k : Nat) (u6 u7 u8 u9 u10 u11 u12 u13 u14 u15 u16 u17 u18 u19 u20 u21 u22 u23 u24 u25 u26 u27 u28 u29 u30 u31 u32 u33 : Value), Below w.heap.size w w' ∧ k ≤ n ∧ goodFrom pre (xs.drop k) k = goodFrom pre xs 0 ∧
    a' = { tmps := #[.slice A n c, .bool pre, undef, undef, .bool false, .int .i64 k, u6, u7, u8, u9, u10, u11, u12, u13, u14, u15, u16, u17, u18, u19, u20, u21, u22, u23, u24, u25, u26, u27, u28, u29, u30, u31, u32, u33], defers := [] }
def GoodM (n : Nat) (a' : Act) (_ : World) : Nat := n - (intOf (a'.tmps.getD 5 undef)).toNat
set_option maxRecDepth 100000 in
set_option maxHeartbeats 3200000 in
theorem good_any (A : Option Addr) (n c : Nat) (xs : List (List UInt8)) (pre : Bool) (w : World) (hr : SRow w A n xs) (hn : n ≤ maxLen) (hx : ∀ x ∈ xs, x.length ≤ maxLen) :
    Calls Tryz.prog 72 #[.slice A n c, .bool pre] w fun e w' => e = .returned (.bool (goodFrom pre xs 0)) ∧ Below w.heap.size w w' := by
  have HN := Lib.hid hn
  unfold maxLen at hn
  have HR := Lib.hid hr
  have HLX := Lib.hid hr.1
  have HX := Lib.hid hx
  clear hr hx
  go_enter Tryz.func72, Tryz.ntmps72
  go_wp2
  refine wp_scope_back 0 (GoodJ w A n c pre xs) (GoodM n) rfl ?_ ?_
  · rintro a' w1 ⟨k, u6, u7, u8, u9, u10, u11, u12, u13, u14, u15, u16, u17, u18, u19, u20, u21, u22, u23, u24, u25, u26, u27, u28, u29, u30, u31, u32, u33, hb1, hk, hgo, rfl⟩
    have HB1 := Lib.hid hb1
    have HG := Lib.hid hgo
    clear hb1 hgo
    have hz1 := HB1.out.size
    by_cases h1 : k = n
    · have HF : Hid (goodFrom pre xs 0 = true) := by
        unfold Hid
        rw [← HG.out, List.drop_eq_nil_of_le (by rw [HLX.out, h1]; exact Nat.le_refl _), goodFrom]
      have hb : ((k : Int) == (n : Int)) = true := by simp [h1]
      clear h1
      go_wp2
      simp only [Exit.jump]
      go_ret
      exact ⟨by rw [HF.out]; rfl, HB1.out⟩
    have hlt : k < n := by omega
    have hb : ((k : Int) == (n : Int)) = false := by simp; omega
    clear h1
    obtain ⟨g, o, rfl, hg, hc1⟩ := (HR.out.kept HB1.out).2 (by omega)
    have hx1 := hc1 k hlt
    clear hc1
    have HKL : Hid (k < xs.length) := by unfold Hid; rw [HLX.out]; exact hlt
    have HST := Lib.hid (fun h1 h2 => goodFrom_step (pre := pre) HKL.out h1 h2)
    have HSP := Lib.hid (fun h => goodFrom_stop (pre := pre) HKL.out h)
    have HZ := Lib.hid (HX.out (xs.getD k []) (by have h := HKL.out; simp [List.getD, List.getElem?_eq_getElem h]))
    have HKM : Hid (k ≤ maxLen) := by have := HN.out; unfold Hid; omega
    generalize xs.getD k [] = s at hx1 HST HSP HZ
    obtain ⟨f, hf⟩ : ∃ f, fault s k pre = f := ⟨_, rfl⟩
    have HFA : Hid (∀ W, Calls Tryz.prog 104 #[.string (mk s), .int .i64 k, .bool pre] W fun e w' => e = .returned (.int .i64 f) ∧ Below W.heap.size W w') := fun W => by
      have := fault_any (mk s) k pre W HZ.out HKM.out
      rw [mk_list, hf] at this; exact this
    rw [hf] at HST HSP
    clear hf
    go_upto_region 4 with (fail)
    go_cut [31] (fun x wx => x = .bool (!(f == 0 && lead s == s.length)) ∧ Below w.heap.size w wx)
    case first =>
      by_cases hf0 : f = 0
      · subst hf0
        have HF : Hid ((!((0 : Nat) == 0 && lead s == s.length)) = (((lead s : Nat) : Int) != (s.length : Int))) := by
          unfold Hid
          rw [Bool.eq_iff_iff]; simp; omega
        refine wp_region_held_drew (S := fun w' => w'.cell? ⟨g, o + k, none⟩ = some (.string (mk s))) (by kernel_rfl) hx1 (fun hHeld => ?_)
        refine wpAnyH_take (i := 0) (oi := { dst := some 10, op := Op.move (Operand.tmp 0), type := 23, pos := _, after := _, guard := none }) (v := .slice (some ⟨g, o, none⟩) n c) rfl (by kernel_rfl) (by kernel_rfl) (by kernel_rfl) (fun _ _ _ h => h) (Or.inl ⟨by rfl, fun w' hS' => by go_simp⟩) (by assumption) ?_
        simp only [Act.put, List.setIfInBounds_toArray, List.set_cons_zero, List.set_cons_succ]
        refine wpAnyH_take (i := 1) (oi := { dst := some 11, op := Op.move (Operand.tmp 5), type := 3, pos := _, after := _, guard := none }) (v := .int .i64 k) rfl (by kernel_rfl) (by kernel_rfl) (by kernel_rfl) (fun _ _ _ h => h) (Or.inl ⟨by rfl, fun w' hS' => by go_simp⟩) (by assumption) ?_
        simp only [Act.put, List.setIfInBounds_toArray, List.set_cons_zero, List.set_cons_succ]
        refine wpAnyH_take (i := 2) (oi := { dst := some 12, op := Op.indexAddr 23 (Operand.tmp 10) (Operand.tmp 11), type := 0, pos := _, after := _, guard := none }) (v := .pointer (some ⟨g, o + k, none⟩)) rfl (by kernel_rfl) (by kernel_rfl) (by kernel_rfl) (fun _ _ _ h => h) (Or.inl ⟨by rfl, fun w' hS' => by go_simp⟩) (by assumption) ?_
        simp only [Act.put, List.setIfInBounds_toArray, List.set_cons_zero, List.set_cons_succ]
        refine wpAnyH_take (i := 3) (oi := { dst := some 13, op := Op.load 9 (Operand.tmp 12), type := 9, pos := _, after := _, guard := none }) (v := .string (mk s)) rfl (by kernel_rfl) (by kernel_rfl) (by kernel_rfl) (fun _ _ _ h => h) (Or.inl ⟨by rfl, fun w' hS' => by go_simp⟩) (by assumption) ?_
        simp only [Act.put, List.setIfInBounds_toArray, List.set_cons_zero, List.set_cons_succ]
        refine wpAnyH_take (i := 4) (oi := { dst := some 14, op := Op.move (Operand.tmp 5), type := 3, pos := _, after := _, guard := none }) (v := .int .i64 k) rfl (by kernel_rfl) (by kernel_rfl) (by kernel_rfl) (fun _ _ _ h => h) (Or.inl ⟨by rfl, fun w' hS' => by go_simp⟩) (by assumption) ?_
        simp only [Act.put, List.setIfInBounds_toArray, List.set_cons_zero, List.set_cons_succ]
        refine wpAnyH_take (i := 5) (oi := { dst := some 15, op := Op.move (Operand.tmp 1), type := 4, pos := _, after := _, guard := none }) (v := .bool pre) rfl (by kernel_rfl) (by kernel_rfl) (by kernel_rfl) (fun _ _ _ h => h) (Or.inl ⟨by rfl, fun w' hS' => by go_simp⟩) (by assumption) ?_
        simp only [Act.put, List.setIfInBounds_toArray, List.set_cons_zero, List.set_cons_succ]
        refine wpAnyH_ready (rs := [6]) (by kernel_rfl) (by simp) ?_
        refine AllReadyH.cons (o := { dst := some 16, op := Op.call { callee := Callee.value (Operand.func 104), args := #[Operand.tmp 13, Operand.tmp 14, Operand.tmp 15], argTypes := #[9, 3, 4] }, type := 46, pos := _, after := _, guard := none }) rfl (fun K hK => ?_) AllReadyH.nil
        go_simp
        refine (HFA.out _).mono ?_
        rintro e w2 ⟨rfl, hb2⟩
        have hx2 : w2.cell? ⟨g, o + k, none⟩ = some (.string (mk s)) := (hb2.cell (p := ⟨g, o + k, none⟩) (by simpa using hg)).trans (by simpa using hx1)
        obtain ⟨cc, W, hcc, hcv, hrr, hbW⟩ := run_bytes w2 (mk s) HZ.out
        have hxW : W.cell? ⟨g, o + k, none⟩ = some (.string (mk s)) := (hbW.cell (p := ⟨g, o + k, none⟩) (Nat.lt_of_lt_of_le (by simpa using hg) hb2.size)).trans hx2
        have HBB := Lib.hid ((HB1.out.drew.trans (hb2.mono hz1)).trans (hbW.mono (Nat.le_trans hz1 hb2.size)))
        have HRR := Lib.hid hrr
        clear hb2 hrr hbW
        refine hK.out _ _ hx2 (fun hHeld => ?_)
        clear hK K
        try simp only [Act.put, List.setIfInBounds_toArray, List.set_cons_zero, List.set_cons_succ]
        refine wpAnyH_take (i := 7) (oi := { dst := some 17, op := Op.binOp BinOp.neq 46 (Operand.tmp 16) (Operand.const (Value.int IntKind.i64 0)) 46, type := 4, pos := _, after := _, guard := none }) (v := .bool false) rfl (by kernel_rfl) (by kernel_rfl) (by kernel_rfl) (fun _ _ _ h => h) (Or.inl ⟨by rfl, fun w' hS' => by go_simp⟩) (by assumption) ?_
        simp only [Act.put, List.setIfInBounds_toArray, List.set_cons_zero, List.set_cons_succ]
        refine wpAnyH_take (i := 8) (oi := { dst := some 18, op := Op.move (Operand.tmp 17), type := 4, pos := _, after := _, guard := none }) (v := .bool false) rfl (by kernel_rfl) (by kernel_rfl) (by kernel_rfl) (fun _ _ _ h => h) (Or.inl ⟨by rfl, fun w' hS' => by go_simp⟩) (by assumption) ?_
        simp only [Act.put, List.setIfInBounds_toArray, List.set_cons_zero, List.set_cons_succ]
        refine wpAnyH_take (i := 9) (oi := { dst := some 19, op := Op.move (Operand.tmp 0), type := 23, pos := _, after := _, guard := some (8, false) }) (v := .slice (some ⟨g, o, none⟩) n c) rfl (by kernel_rfl) (by kernel_rfl) (by kernel_rfl) (fun _ _ _ h => h) (Or.inl ⟨by rfl, fun w' hS' => by go_simp⟩) (by assumption) ?_
        simp only [Act.put, List.setIfInBounds_toArray, List.set_cons_zero, List.set_cons_succ]
        refine wpAnyH_take (i := 10) (oi := { dst := some 20, op := Op.move (Operand.tmp 5), type := 3, pos := _, after := _, guard := some (8, false) }) (v := .int .i64 k) rfl (by kernel_rfl) (by kernel_rfl) (by kernel_rfl) (fun _ _ _ h => h) (Or.inl ⟨by rfl, fun w' hS' => by go_simp⟩) (by assumption) ?_
        simp only [Act.put, List.setIfInBounds_toArray, List.set_cons_zero, List.set_cons_succ]
        refine wpAnyH_take (i := 11) (oi := { dst := some 21, op := Op.indexAddr 23 (Operand.tmp 19) (Operand.tmp 20), type := 0, pos := _, after := _, guard := some (8, false) }) (v := .pointer (some ⟨g, o + k, none⟩)) rfl (by kernel_rfl) (by kernel_rfl) (by kernel_rfl) (fun _ _ _ h => h) (Or.inl ⟨by rfl, fun w' hS' => by go_simp⟩) (by assumption) ?_
        simp only [Act.put, List.setIfInBounds_toArray, List.set_cons_zero, List.set_cons_succ]
        refine wpAnyH_take (i := 12) (oi := { dst := some 22, op := Op.load 9 (Operand.tmp 21), type := 9, pos := _, after := _, guard := some (8, false) }) (v := .string (mk s)) rfl (by kernel_rfl) (by kernel_rfl) (by kernel_rfl) (fun _ _ _ h => h) (Or.inl ⟨by rfl, fun w' hS' => by go_simp⟩) (by assumption) ?_
        simp only [Act.put, List.setIfInBounds_toArray, List.set_cons_zero, List.set_cons_succ]
        refine wpAnyH_take (i := 15) (oi := { dst := some 25, op := Op.move (Operand.tmp 0), type := 23, pos := _, after := _, guard := some (8, false) }) (v := .slice (some ⟨g, o, none⟩) n c) rfl (by kernel_rfl) (by kernel_rfl) (by kernel_rfl) (fun _ _ _ h => h) (Or.inl ⟨by rfl, fun w' hS' => by go_simp⟩) (by assumption) ?_
        simp only [Act.put, List.setIfInBounds_toArray, List.set_cons_zero, List.set_cons_succ]
        refine wpAnyH_take (i := 16) (oi := { dst := some 26, op := Op.move (Operand.tmp 5), type := 3, pos := _, after := _, guard := some (8, false) }) (v := .int .i64 k) rfl (by kernel_rfl) (by kernel_rfl) (by kernel_rfl) (fun _ _ _ h => h) (Or.inl ⟨by rfl, fun w' hS' => by go_simp⟩) (by assumption) ?_
        simp only [Act.put, List.setIfInBounds_toArray, List.set_cons_zero, List.set_cons_succ]
        refine wpAnyH_take (i := 17) (oi := { dst := some 27, op := Op.indexAddr 23 (Operand.tmp 25) (Operand.tmp 26), type := 0, pos := _, after := _, guard := some (8, false) }) (v := .pointer (some ⟨g, o + k, none⟩)) rfl (by kernel_rfl) (by kernel_rfl) (by kernel_rfl) (fun _ _ _ h => h) (Or.inl ⟨by rfl, fun w' hS' => by go_simp⟩) (by assumption) ?_
        simp only [Act.put, List.setIfInBounds_toArray, List.set_cons_zero, List.set_cons_succ]
        refine wpAnyH_take (i := 18) (oi := { dst := some 28, op := Op.load 9 (Operand.tmp 27), type := 9, pos := _, after := _, guard := some (8, false) }) (v := .string (mk s)) rfl (by kernel_rfl) (by kernel_rfl) (by kernel_rfl) (fun _ _ _ h => h) (Or.inl ⟨by rfl, fun w' hS' => by go_simp⟩) (by assumption) ?_
        simp only [Act.put, List.setIfInBounds_toArray, List.set_cons_zero, List.set_cons_succ]
        refine wpAnyH_take (i := 19) (oi := { dst := some 29, op := Op.call { callee := Callee.builtin Builtin.len, args := #[Operand.tmp 28], argTypes := #[9] }, type := 3, pos := _, after := _, guard := some (8, false) }) (v := .int .i64 (mk s).size) rfl (by kernel_rfl) (by kernel_rfl) (by kernel_rfl) (fun _ _ _ h => h) (Or.inl ⟨by rfl, fun w' hS' => by go_simp⟩) (by assumption) ?_
        simp only [Act.put, List.setIfInBounds_toArray, List.set_cons_zero, List.set_cons_succ]
        refine wpAnyH_ready (rs := [13]) (by kernel_rfl) (by simp) ?_
        refine AllReadyH.cons (o := { dst := some 23, op := Op.convert 9 68 (Operand.tmp 22), type := 68, pos := _, after := _, guard := some (8, false) }) rfl (fun K hK => ?_) AllReadyH.nil
        go_simp
        refine hK.out _ _ hxW (fun hHeld => ?_)
        clear hK K
        try simp only [Act.put, List.setIfInBounds_toArray, List.set_cons_zero, List.set_cons_succ]
        refine wpAnyH_ready (rs := [14]) (by kernel_rfl) (by simp) ?_
        refine AllReadyH.cons (o := { dst := some 24, op := Op.call { callee := Callee.value (Operand.func 105), args := #[Operand.tmp 23], argTypes := #[68] }, type := 3, pos := _, after := _, guard := some (8, false) }) rfl (fun K hK => ?_) AllReadyH.nil
        go_simp
        refine (length_any _ _ _ _ _ HRR.out).mono ?_
        rintro e w3 ⟨rfl, rfl⟩
        refine hK.out _ _ hxW (fun hHeld => ?_)
        clear hK K
        try simp only [Act.put, List.setIfInBounds_toArray, List.set_cons_zero, List.set_cons_succ]
        refine wpAnyH_take (i := 20) (oi := { dst := some 30, op := Op.binOp BinOp.neq 3 (Operand.tmp 24) (Operand.tmp 29) 3, type := 4, pos := _, after := _, guard := some (8, false) }) (v := .bool (((lead s : Nat) : Int) != (s.length : Int))) rfl (by kernel_rfl) (by kernel_rfl) (by kernel_rfl) (fun _ _ _ h => h) (Or.inl ⟨by rfl, fun w' hS' => by (go_simp; rfl)⟩) (by assumption) ?_
        simp only [Act.put, List.setIfInBounds_toArray, List.set_cons_zero, List.set_cons_succ]
        refine wpAnyH_take (i := 21) (oi := { dst := some 31, op := Op.pick (Operand.tmp 18) (Operand.const (Value.bool true)) (Operand.tmp 30), type := 4, pos := _, after := _, guard := none }) (v := .bool (((lead s : Nat) : Int) != (s.length : Int))) rfl (by kernel_rfl) (by kernel_rfl) (by kernel_rfl) (fun _ _ _ h => h) (Or.inl ⟨by rfl, fun w' hS' => by go_simp⟩) (by assumption) ?_
        simp only [Act.put, List.setIfInBounds_toArray, List.set_cons_zero, List.set_cons_succ]
        refine wpAnyH_done (by kernel_rfl) ?_ _
        go_wp2
        go_meet
        exact ⟨by rw [HF.out], HBB.out⟩
      · have hn1 : ((f : Int) == 0) = false := by simp [hf0]
        have hn2 : ((f : Int) != 0) = true := by simp [hf0]
        have HF : Hid ((!(f == 0 && lead s == s.length)) = true) := by unfold Hid; simp [hf0]
        refine wp_region_held_drew (S := fun w' => w'.cell? ⟨g, o + k, none⟩ = some (.string (mk s))) (by kernel_rfl) hx1 (fun hHeld => ?_)
        refine wpAnyH_take (i := 0) (oi := { dst := some 10, op := Op.move (Operand.tmp 0), type := 23, pos := _, after := _, guard := none }) (v := .slice (some ⟨g, o, none⟩) n c) rfl (by kernel_rfl) (by kernel_rfl) (by kernel_rfl) (fun _ _ _ h => h) (Or.inl ⟨by rfl, fun w' hS' => by go_simp⟩) (by assumption) ?_
        simp only [Act.put, List.setIfInBounds_toArray, List.set_cons_zero, List.set_cons_succ]
        refine wpAnyH_take (i := 1) (oi := { dst := some 11, op := Op.move (Operand.tmp 5), type := 3, pos := _, after := _, guard := none }) (v := .int .i64 k) rfl (by kernel_rfl) (by kernel_rfl) (by kernel_rfl) (fun _ _ _ h => h) (Or.inl ⟨by rfl, fun w' hS' => by go_simp⟩) (by assumption) ?_
        simp only [Act.put, List.setIfInBounds_toArray, List.set_cons_zero, List.set_cons_succ]
        refine wpAnyH_take (i := 2) (oi := { dst := some 12, op := Op.indexAddr 23 (Operand.tmp 10) (Operand.tmp 11), type := 0, pos := _, after := _, guard := none }) (v := .pointer (some ⟨g, o + k, none⟩)) rfl (by kernel_rfl) (by kernel_rfl) (by kernel_rfl) (fun _ _ _ h => h) (Or.inl ⟨by rfl, fun w' hS' => by go_simp⟩) (by assumption) ?_
        simp only [Act.put, List.setIfInBounds_toArray, List.set_cons_zero, List.set_cons_succ]
        refine wpAnyH_take (i := 3) (oi := { dst := some 13, op := Op.load 9 (Operand.tmp 12), type := 9, pos := _, after := _, guard := none }) (v := .string (mk s)) rfl (by kernel_rfl) (by kernel_rfl) (by kernel_rfl) (fun _ _ _ h => h) (Or.inl ⟨by rfl, fun w' hS' => by go_simp⟩) (by assumption) ?_
        simp only [Act.put, List.setIfInBounds_toArray, List.set_cons_zero, List.set_cons_succ]
        refine wpAnyH_take (i := 4) (oi := { dst := some 14, op := Op.move (Operand.tmp 5), type := 3, pos := _, after := _, guard := none }) (v := .int .i64 k) rfl (by kernel_rfl) (by kernel_rfl) (by kernel_rfl) (fun _ _ _ h => h) (Or.inl ⟨by rfl, fun w' hS' => by go_simp⟩) (by assumption) ?_
        simp only [Act.put, List.setIfInBounds_toArray, List.set_cons_zero, List.set_cons_succ]
        refine wpAnyH_take (i := 5) (oi := { dst := some 15, op := Op.move (Operand.tmp 1), type := 4, pos := _, after := _, guard := none }) (v := .bool pre) rfl (by kernel_rfl) (by kernel_rfl) (by kernel_rfl) (fun _ _ _ h => h) (Or.inl ⟨by rfl, fun w' hS' => by go_simp⟩) (by assumption) ?_
        simp only [Act.put, List.setIfInBounds_toArray, List.set_cons_zero, List.set_cons_succ]
        refine wpAnyH_ready (rs := [6]) (by kernel_rfl) (by simp) ?_
        refine AllReadyH.cons (o := { dst := some 16, op := Op.call { callee := Callee.value (Operand.func 104), args := #[Operand.tmp 13, Operand.tmp 14, Operand.tmp 15], argTypes := #[9, 3, 4] }, type := 46, pos := _, after := _, guard := none }) rfl (fun K hK => ?_) AllReadyH.nil
        go_simp
        refine (HFA.out _).mono ?_
        rintro e w2 ⟨rfl, hb2⟩
        have hx2 : w2.cell? ⟨g, o + k, none⟩ = some (.string (mk s)) := (hb2.cell (p := ⟨g, o + k, none⟩) (by simpa using hg)).trans (by simpa using hx1)
        have HBB := Lib.hid (HB1.out.drew.trans (hb2.mono hz1))
        clear hb2
        refine hK.out _ _ hx2 (fun hHeld => ?_)
        clear hK K
        try simp only [Act.put, List.setIfInBounds_toArray, List.set_cons_zero, List.set_cons_succ]
        refine wpAnyH_take (i := 7) (oi := { dst := some 17, op := Op.binOp BinOp.neq 46 (Operand.tmp 16) (Operand.const (Value.int IntKind.i64 0)) 46, type := 4, pos := _, after := _, guard := none }) (v := .bool true) rfl (by kernel_rfl) (by kernel_rfl) (by kernel_rfl) (fun _ _ _ h => h) (Or.inl ⟨by rfl, fun w' hS' => by go_simp⟩) (by assumption) ?_
        simp only [Act.put, List.setIfInBounds_toArray, List.set_cons_zero, List.set_cons_succ]
        refine wpAnyH_take (i := 8) (oi := { dst := some 18, op := Op.move (Operand.tmp 17), type := 4, pos := _, after := _, guard := none }) (v := .bool true) rfl (by kernel_rfl) (by kernel_rfl) (by kernel_rfl) (fun _ _ _ h => h) (Or.inl ⟨by rfl, fun w' hS' => by go_simp⟩) (by assumption) ?_
        simp only [Act.put, List.setIfInBounds_toArray, List.set_cons_zero, List.set_cons_succ]
        refine wpAnyH_take (i := 9) (oi := { dst := some 19, op := Op.move (Operand.tmp 0), type := 23, pos := _, after := _, guard := some (8, false) }) (v := undef) rfl (by kernel_rfl) (by kernel_rfl) (by kernel_rfl) (fun _ _ _ h => h) (Or.inr ⟨by rfl, rfl⟩) (by assumption) ?_
        simp only [Act.put, List.setIfInBounds_toArray, List.set_cons_zero, List.set_cons_succ]
        refine wpAnyH_take (i := 10) (oi := { dst := some 20, op := Op.move (Operand.tmp 5), type := 3, pos := _, after := _, guard := some (8, false) }) (v := undef) rfl (by kernel_rfl) (by kernel_rfl) (by kernel_rfl) (fun _ _ _ h => h) (Or.inr ⟨by rfl, rfl⟩) (by assumption) ?_
        simp only [Act.put, List.setIfInBounds_toArray, List.set_cons_zero, List.set_cons_succ]
        refine wpAnyH_take (i := 11) (oi := { dst := some 21, op := Op.indexAddr 23 (Operand.tmp 19) (Operand.tmp 20), type := 0, pos := _, after := _, guard := some (8, false) }) (v := undef) rfl (by kernel_rfl) (by kernel_rfl) (by kernel_rfl) (fun _ _ _ h => h) (Or.inr ⟨by rfl, rfl⟩) (by assumption) ?_
        simp only [Act.put, List.setIfInBounds_toArray, List.set_cons_zero, List.set_cons_succ]
        refine wpAnyH_take (i := 12) (oi := { dst := some 22, op := Op.load 9 (Operand.tmp 21), type := 9, pos := _, after := _, guard := some (8, false) }) (v := undef) rfl (by kernel_rfl) (by kernel_rfl) (by kernel_rfl) (fun _ _ _ h => h) (Or.inr ⟨by rfl, rfl⟩) (by assumption) ?_
        simp only [Act.put, List.setIfInBounds_toArray, List.set_cons_zero, List.set_cons_succ]
        refine wpAnyH_take (i := 13) (oi := { dst := some 23, op := Op.convert 9 68 (Operand.tmp 22), type := 68, pos := _, after := _, guard := some (8, false) }) (v := undef) rfl (by kernel_rfl) (by kernel_rfl) (by kernel_rfl) (fun _ _ _ h => h) (Or.inr ⟨by rfl, rfl⟩) (by assumption) ?_
        simp only [Act.put, List.setIfInBounds_toArray, List.set_cons_zero, List.set_cons_succ]
        refine wpAnyH_take (i := 14) (oi := { dst := some 24, op := Op.call { callee := Callee.value (Operand.func 105), args := #[Operand.tmp 23], argTypes := #[68] }, type := 3, pos := _, after := _, guard := some (8, false) }) (v := undef) rfl (by kernel_rfl) (by kernel_rfl) (by kernel_rfl) (fun _ _ _ h => h) (Or.inr ⟨by rfl, rfl⟩) (by assumption) ?_
        simp only [Act.put, List.setIfInBounds_toArray, List.set_cons_zero, List.set_cons_succ]
        refine wpAnyH_take (i := 15) (oi := { dst := some 25, op := Op.move (Operand.tmp 0), type := 23, pos := _, after := _, guard := some (8, false) }) (v := undef) rfl (by kernel_rfl) (by kernel_rfl) (by kernel_rfl) (fun _ _ _ h => h) (Or.inr ⟨by rfl, rfl⟩) (by assumption) ?_
        simp only [Act.put, List.setIfInBounds_toArray, List.set_cons_zero, List.set_cons_succ]
        refine wpAnyH_take (i := 16) (oi := { dst := some 26, op := Op.move (Operand.tmp 5), type := 3, pos := _, after := _, guard := some (8, false) }) (v := undef) rfl (by kernel_rfl) (by kernel_rfl) (by kernel_rfl) (fun _ _ _ h => h) (Or.inr ⟨by rfl, rfl⟩) (by assumption) ?_
        simp only [Act.put, List.setIfInBounds_toArray, List.set_cons_zero, List.set_cons_succ]
        refine wpAnyH_take (i := 17) (oi := { dst := some 27, op := Op.indexAddr 23 (Operand.tmp 25) (Operand.tmp 26), type := 0, pos := _, after := _, guard := some (8, false) }) (v := undef) rfl (by kernel_rfl) (by kernel_rfl) (by kernel_rfl) (fun _ _ _ h => h) (Or.inr ⟨by rfl, rfl⟩) (by assumption) ?_
        simp only [Act.put, List.setIfInBounds_toArray, List.set_cons_zero, List.set_cons_succ]
        refine wpAnyH_take (i := 18) (oi := { dst := some 28, op := Op.load 9 (Operand.tmp 27), type := 9, pos := _, after := _, guard := some (8, false) }) (v := undef) rfl (by kernel_rfl) (by kernel_rfl) (by kernel_rfl) (fun _ _ _ h => h) (Or.inr ⟨by rfl, rfl⟩) (by assumption) ?_
        simp only [Act.put, List.setIfInBounds_toArray, List.set_cons_zero, List.set_cons_succ]
        refine wpAnyH_take (i := 19) (oi := { dst := some 29, op := Op.call { callee := Callee.builtin Builtin.len, args := #[Operand.tmp 28], argTypes := #[9] }, type := 3, pos := _, after := _, guard := some (8, false) }) (v := undef) rfl (by kernel_rfl) (by kernel_rfl) (by kernel_rfl) (fun _ _ _ h => h) (Or.inr ⟨by rfl, rfl⟩) (by assumption) ?_
        simp only [Act.put, List.setIfInBounds_toArray, List.set_cons_zero, List.set_cons_succ]
        refine wpAnyH_take (i := 20) (oi := { dst := some 30, op := Op.binOp BinOp.neq 3 (Operand.tmp 24) (Operand.tmp 29) 3, type := 4, pos := _, after := _, guard := some (8, false) }) (v := undef) rfl (by kernel_rfl) (by kernel_rfl) (by kernel_rfl) (fun _ _ _ h => h) (Or.inr ⟨by rfl, rfl⟩) (by assumption) ?_
        simp only [Act.put, List.setIfInBounds_toArray, List.set_cons_zero, List.set_cons_succ]
        refine wpAnyH_take (i := 21) (oi := { dst := some 31, op := Op.pick (Operand.tmp 18) (Operand.const (Value.bool true)) (Operand.tmp 30), type := 4, pos := _, after := _, guard := none }) (v := .bool true) rfl (by kernel_rfl) (by kernel_rfl) (by kernel_rfl) (fun _ _ _ h => h) (Or.inl ⟨by rfl, fun w' hS' => by go_simp⟩) (by assumption) ?_
        simp only [Act.put, List.setIfInBounds_toArray, List.set_cons_zero, List.set_cons_succ]
        refine wpAnyH_done (by kernel_rfl) ?_ _
        go_wp2
        go_meet
        exact ⟨by rw [HF.out], HBB.out⟩
    case rest =>
      obtain ⟨rfl, hbx⟩ := hcut
      have HBX := Lib.hid hbx; clear hbx
      cases hq : (f == 0 && lead s == s.length)
      · have HF : Hid (goodFrom pre xs 0 = false) := by
          unfold Hid
          rw [← HG.out]
          apply HSP.out
          rw [Bool.and_eq_false_iff] at hq
          rcases hq with h | h
          · exact .inl (by simpa using h)
          · exact .inr (by simpa using h)
        clear hq
        simp only [Bool.not_false]
        go_wp2
        simp only [Exit.jump]
        go_ret
        exact ⟨by rw [HF.out]; rfl, HBX.out⟩
      · have HF : Hid (goodFrom pre (xs.drop (k + 1)) (k + 1) = goodFrom pre xs 0) := by
          unfold Hid
          rw [Bool.and_eq_true, beq_iff_eq, beq_iff_eq] at hq
          rw [← HG.out, ← HST.out hq.1 hq.2]
        clear hq
        simp only [Bool.not_true]
        go_wp2
        go_step3
        rw [show ((k : Int) + 1) = ((k + 1 : Nat) : Int) from rfl]
        refine ⟨rfl, ⟨k + 1, _, _, _, _, _, _, _, _, _, _, _, _, _, _, _, _, _, _, _, _, _, _, _, _, _, _, _, _, HBX.out, by omega, HF.out, rfl⟩, ?_⟩
        simp [GoodM, intOf]; omega
  · intro HP
    go_wp2
    go_step3
    rename_i hK
    exact hK _ _ (HP.out _ _ ⟨0, _, _, _, _, _, _, _, _, _, _, _, _, _, _, _, _, _, _, _, _, _, _, _, _, _, _, _, _, Below.refl _ _, by omega, rfl, rfl⟩)
end Go.Proofs.YtgfbflnhjpbceaaGreatDoor.Ident

namespace Go.Proofs.YtgfbflnhjpbceaaGreatDoor.Ident
open Go.RowKit Num

set_option maxRecDepth 100000 in
set_option maxHeartbeats 800000 in
theorem text_any (A : Option Addr) (n c : Nat) (xs : List (List UInt8)) (w : World) (hr : SRow w A n xs) (hc : n ≤ c) (hs : shortB xs = true) :
    Calls Tryz.prog 146 #[.slice A n c] w fun e w' => e = .returned (.string (mk (joined xs))) ∧ Below w.heap.size w w' := by
  have HJ : Hid (∀ W, W = w → Calls Tryz.prog 164 #[.slice A n c, .string ⟨#[46]⟩] W fun e w' => e = .returned (.string (mk (joined xs))) ∧ Below w.heap.size w w') := by
    rintro W rfl
    have hn := hr.1
    rw [shortB_iff] at hs
    have hle := joined_le xs hs.2
    rcases Nat.eq_zero_or_pos n with h0 | h0
    · subst h0
      have e : xs = [] := List.eq_nil_of_length_eq_zero hn
      subst e
      refine (Tryz.strings_Join_none A c ⟨#[46]⟩ W).mono ?_
      rintro e w' ⟨rfl, rfl⟩
      exact ⟨rfl, Below.refl _ _⟩
    · obtain ⟨b, o, rfl, hb, hcell⟩ := hr.2 h0
      have e1 : (xs.map mk).map (fun x : ByteArray => x.data.toList) = xs := by
        rw [List.map_map]; exact List.map_id xs
      have := Tryz.strings_Join b o c (xs.map mk) ⟨#[46]⟩ W (fun j x hx => by
        have hj : j < xs.length := by have := (List.getElem?_eq_some_iff.1 hx).1; rwa [List.length_map] at this
        have hx2 : x = mk (xs.getD j []) := by
          rw [List.getElem?_map, List.getElem?_eq_getElem hj] at hx
          simp at hx
          rw [← hx]; simp [List.getD, List.getElem?_eq_getElem hj]
        rw [hx2]; exact hcell j (by omega)) hb (by rw [List.length_map]; omega) (by rw [List.length_map]; omega) (by
          rw [e1]
          show (joined xs).length ≤ _
          omega)
      rw [e1, List.length_map, hn] at this
      exact this
  clear hr hs
  go_enter Tryz.func146, Tryz.ntmps146
  go_wp2_with fail
  refine (HJ.out _ rfl).mono ?_
  rintro e w1 ⟨rfl, hb1⟩
  go_wp2
  go_ret
  exact ⟨rfl, hb1⟩
end Go.Proofs.YtgfbflnhjpbceaaGreatDoor.Ident

namespace Go.Proofs.YtgfbflnhjpbceaaGreatDoor.Num
open Go.RowKit Go.Sort

/-- The table of powers of ten is laid as it is written. -/
def Tab (w : World) : Prop := Lib.TabIs Tryz.prog w "internal/strconv.uint64pow10" .u64 Lib.pow10Tab
theorem Tab.kept {w w' : World} (h : Tab w) (hb : Below w.heap.size w w') : Tab w' := by
  unfold Tab Lib.TabIs World.var? at *
  cases hg : Tryz.prog.globalNamed "internal/strconv.uint64pow10" with
  | none => simp [hg] at h
  | some g =>
    simp only [hg, Option.bind_some] at h ⊢
    have hlt : g < w.heap.size := by
      rcases Nat.lt_or_ge g w.heap.size with h' | h'
      · exact h'
      · rw [Array.getElem?_eq_none h'] at h; simp at h
    rw [hb.block g hlt]
    exact h

theorem below_grow (w : World) (k : Nat) (os : Array Obj) : Below w.heap.size w (grow (w.drewN k) os) := by
  refine ⟨rfl, rfl, rfl, ?_, fun j hj => ?_⟩
  · show w.heap.size ≤ (w.heap ++ os).size
    simp
  · show (w.heap ++ os)[j]? = _
    rw [Array.getElem?_append_left hj]

theorem holds_zero0 (w : World) (T : TypeId) (nd : Nat) (hs : nd ≤ 24) : Holds (fun (b : UInt8) => Value.int .u8 (b.toNat : Int)) (w.alloc (.cells Lib.zeros24 T)) w.heap.size 0 (Array.replicate nd (0 : UInt8)) := fun j hj => by
  have hj' : j < nd := by simpa using hj
  refine ⟨?_, World.frozen?_alloc_new _ _ _ _⟩
  rw [World.cell?_alloc_new, Lib.zeros24_at _ (by omega), getElem!_pos _ j hj]
  simp

set_option maxRecDepth 100000 in
set_option maxHeartbeats 800000 in
theorem fmt_any (u : Nat) (h : u < 18446744073709551616) (w : World) (htab : Tab w) :
    Calls Tryz.prog 163 #[.int .u64 u, .int .i64 10] w fun e w' => e = .returned (.string ⟨(Lib.decDigits u).toArray⟩) ∧ Below w.heap.size w w' := by
  have HU := Lib.hid h; clear h
  by_cases hs : u < 100
  · go_enter Tryz.func163, Tryz.ntmps163
    go_wp2_with fail
    refine (Tryz.internal_strconv_small u hs _).mono ?_
    rintro e w' ⟨rfl, rfl⟩
    go_wp2
    go_ret
    exact ⟨rfl, Below.refl _ _⟩
  · have hu1 : 1 ≤ u := by omega
    have hnd := Lib.nDigits_le20 u HU.out
    have hal : Tryz.prog.arrayLen 188 = 24 := by simp [Program.arrayLen, Tryz.underlying188]
    have hsl : ∀ W, (Instr.sliceAt 188 (.pointer (some ⟨w.heap.size, 0, none⟩)) none (some (.int .i64 (Lib.nDigits u : Int))) none).run Tryz.prog W = .ok (.slice (some ⟨w.heap.size, 0, none⟩) (Lib.nDigits u) 24) W := fun W => by
      rw [run_sliceAt_array_h W 188 ⟨w.heap.size, 0, none⟩ (by simp [Program.arrayLen, Program.elem, Tryz.underlying188]) .i64 (Lib.nDigits u : Int) (by omega) (by rw [hal]; omega)]
      go_simp
    have hH0 := holds_zero0 w 188 (Lib.nDigits u) (by omega)
    have hfmt := Tryz.internal_strconv_formatBase10 w.heap.size 0 24 u (Array.replicate (Lib.nDigits u) 0) (w.alloc (.cells Lib.zeros24 188)) hH0 (by rw [Array.size_replicate]; exact Lib.lt_pow_nDigits u) HU.out (by rw [Array.size_replicate]; omega)
    rw [Array.size_replicate] at hfmt
    have HH0 := Lib.hid hH0
    have HFMT := Lib.hid hfmt
    have HT := Lib.hid htab
    clear hH0 hal hfmt htab
    go_enter Tryz.func163, Tryz.ntmps163
    go_wp2_with fail
    refine (Tryz.internal_strconv_numDigits u hu1 HU.out _ (Lib.tabIs_alloc HT.out _)).mono ?_
    rintro e w' ⟨rfl, rfl⟩
    go_wp2_with fail
    refine HFMT.out.mono ?_
    rintro e w' ⟨rfl, k, v', dk, rfl, hF⟩
    have hcv : (convert 68 9 (.slice (some ⟨w.heap.size, 0, none⟩) (Lib.nDigits u) 24)).run Tryz.prog ((putRow (fun (b : UInt8) => Value.int .u8 (b.toNat : Int)) (w.alloc (.cells Lib.zeros24 188)) w.heap.size 0 dk).drewN k) = .ok (.string ⟨(Lib.decDigits u).toArray⟩) ((putRow (fun (b : UInt8) => Value.int .u8 (b.toNat : Int)) (w.alloc (.cells Lib.zeros24 188)) w.heap.size 0 dk).drewN k) := by
      have h := run_convert_bytes_back (P := Tryz.prog) ((putRow (fun (b : UInt8) => Value.int .u8 (b.toNat : Int)) (w.alloc (.cells Lib.zeros24 188)) w.heap.size 0 dk).drewN k) 68 9 5 ⟨w.heap.size, 0, none⟩ 24 (Lib.decDigits u) Tryz.underlying68 Tryz.underlying5 Tryz.underlying9 (fun j hj => by
        rw [Lib.row_is_numeral hF j hj, Lib.add_plain, World.cell?_drewN]
        exact cell?_putRow (fun (b : UInt8) => Value.int .u8 (b.toNat : Int)) _ w.heap.size 0 _ dk HH0.out (by rw [hF.size, Array.size_replicate]) j (by rw [hF.size]; rw [Lib.decDigits_length] at hj; exact hj))
      rw [Lib.decDigits_length] at h
      exact h
    have HB : Hid (Below w.heap.size w ((putRow (fun (b : UInt8) => Value.int .u8 (b.toNat : Int)) (w.alloc (.cells Lib.zeros24 188)) w.heap.size 0 dk).drewN k)) := by
      obtain ⟨os', _, e⟩ := putRow_grow_new (fun (b : UInt8) => Value.int .u8 (b.toNat : Int)) w #[.cells Lib.zeros24 188] w.heap.size 0 dk (Nat.le_refl _)
      unfold Hid
      rw [alloc_eq_grow, e]
      exact below_grow w k os'
    generalize (putRow (fun (b : UInt8) => Value.int .u8 (b.toNat : Int)) (w.alloc (.cells Lib.zeros24 188)) w.heap.size 0 dk).drewN k = W at hcv HB ⊢
    go_wp2
    go_ret
    exact ⟨rfl, HB.out⟩

set_option maxRecDepth 100000 in
set_option maxHeartbeats 800000 in
theorem format_any (u : Nat) (h : u < 18446744073709551616) (w : World) (htab : Tab w) :
    Calls Tryz.prog 145 #[.int .u64 u, .int .i64 10] w fun e w' => e = .returned (.string ⟨(Lib.decDigits u).toArray⟩) ∧ Below w.heap.size w w' := by
  have HU := Lib.hid h; clear h
  have HT := Lib.hid htab; clear htab
  go_enter Tryz.func145, Tryz.ntmps145
  go_wp2_with fail
  refine (fmt_any u HU.out _ HT.out).mono ?_
  rintro e w1 ⟨rfl, hb1⟩
  go_wp2
  go_ret
  exact ⟨rfl, hb1⟩

set_option maxRecDepth 100000 in
set_option maxHeartbeats 800000 in
theorem text_any (u : Nat) (h : u < 18446744073709551616) (w : World) (htab : Tab w) :
    Calls Tryz.prog 117 #[.int .u64 u] w fun e w' => e = .returned (.string ⟨(Lib.decDigits u).toArray⟩) ∧ Below w.heap.size w w' := by
  have HU := Lib.hid h; clear h
  have HT := Lib.hid htab; clear htab
  go_enter Tryz.func117, Tryz.ntmps117
  go_wp2_with fail
  refine (format_any u HU.out _ HT.out).mono ?_
  rintro e w1 ⟨rfl, hb1⟩
  go_wp2
  go_ret
  exact ⟨rfl, hb1⟩

/-- A numeral's digits. -/
theorem dec_all (u : Nat) : AllDig (Lib.decDigits u) := by
  induction u using Nat.strongRecOn with
  | _ u ih =>
    rw [Lib.decDigits]
    split
    · rename_i h
      intro b hb
      simp only [List.mem_singleton] at hb
      subst hb
      rw [isDig_iff, UInt8.toNat_ofNat']; omega
    · rename_i h
      intro b hb
      rw [List.mem_append] at hb
      rcases hb with hb | hb
      · exact ih (u / 10) (by omega) b hb
      · simp only [List.mem_singleton] at hb
        subst hb
        rw [isDig_iff, UInt8.toNat_ofNat']; omega
theorem dec_val (u : Nat) : val (Lib.decDigits u) = u := by
  induction u using Nat.strongRecOn with
  | _ u ih =>
    rw [Lib.decDigits]
    split
    · rename_i h
      rw [val_cons]
      simp [UInt8.toNat_ofNat', val, valFrom]; omega
    · rename_i h
      rw [val_snoc, ih (u / 10) (by omega), UInt8.toNat_ofNat']; omega
theorem dec_pos (u : Nat) : 0 < (Lib.decDigits u).length := by rw [Lib.decDigits_length]; exact Lib.nDigits_pos u
theorem nd_le : ∀ (k u : Nat), u < 10 ^ k → 1 ≤ k → Lib.nDigits u ≤ k
  | 0, _, _, h => by omega
  | k + 1, u, h1, _ => by
    by_cases h : u < 10
    · rw [Lib.nDigits_small h]; omega
    · rw [Lib.nDigits_big h]
      rw [Nat.pow_succ] at h1
      rcases Nat.eq_zero_or_pos k with h0 | h0
      · subst h0; simp at h1; omega
      · have := nd_le k (u / 10) (by omega) h0
        omega
theorem dec_pad (u : Nat) : pad (Lib.decDigits u) = false := by
  rw [pad_no]
  rintro ⟨h1, h2⟩
  rw [Lib.decDigits_length] at h1
  have hv := dec_val u
  have hl := Lib.decDigits_length u
  cases hd : Lib.decDigits u with
  | nil => rw [hd] at hl; simp at hl; omega
  | cons b r =>
    rw [hd] at hv h2 hl
    have ha := dec_all u
    rw [hd, allDig_cons] at ha
    have hr := val_lt ha.2
    have hb : b.toNat = 48 := by simpa using h2
    rw [val_cons, hb] at hv
    simp at hv hl
    rw [hv] at hr
    have := nd_le r.length u hr (by omega)
    omega
theorem dec_num (u : Nat) : isNum (Lib.decDigits u) = true := by
  rw [isNum_iff]
  exact ⟨dec_pos u, run_all (dec_all u), dec_pad u⟩
end Go.Proofs.YtgfbflnhjpbceaaGreatDoor.Num

namespace Go.Proofs.YtgfbflnhjpbceaaGreatDoor.Semver
open Go.RowKit Num Ident

/-- A builder at block b that holds these bytes; what it makes lies at or behind B. -/
def Bld (w : World) (B b : Nat) (l : List UInt8) : Prop := Lib.IsBuilderF 71 5 B b (Lib.byteCells l) w
theorem Bld.new (w : World) (B : Nat) (h : B ≤ w.heap.size) : Bld (w.alloc (.cells #[.pointer none, .slice none 0 0] 71)) B w.heap.size [] := by
  refine .inl ⟨h, .slice none 0 0, ?_, World.ownsRowF_nil _ _ _ _, by simp [Value.ownBlock]⟩
  show (w.heap.push _)[w.heap.size]? = _
  simp
theorem atF_kept {w w' : World} {B b : Nat} {p : Value} {bs : List Value} (h : Lib.BuilderAtF 71 5 B b p bs w) (hb : Below w.heap.size w w') : Lib.BuilderAtF 71 5 B b p bs w' := by
  obtain ⟨h1, v, h2, h3, h4⟩ := h
  have lt : ∀ k o, w.heap[k]? = some o → k < w.heap.size := fun k o hk => (Array.getElem?_eq_some_iff.1 hk).1
  refine ⟨h1, v, (hb.block b (lt b _ h2)).trans h2, ⟨h3.1, ?_⟩, h4⟩
  rcases h3.2 with h5 | ⟨g, cap, cur, fz, e1, e2, e3, e4⟩
  · exact .inl h5
  · exact .inr ⟨g, cap, cur, fz, e1, e2, (hb.block g (lt g _ e3)).trans e3, e4⟩
theorem Bld.kept {w w' : World} {B b : Nat} {l : List UInt8} (h : Bld w B b l) (hb : Below w.heap.size w w') : Bld w' B b l :=
  h.elim (fun x => .inl (atF_kept x hb)) (fun x => .inr (atF_kept x hb))
theorem others_below {w w' : World} {b : Option Nat} (hb : Below w.heap.size w w') : Lib.OthersKept 5 b w w' :=
  fun k _ hk _ _ => (hb.block k (Array.getElem?_eq_some_iff.1 hk).1).trans hk
theorem byteCells_length (l : List UInt8) : (Lib.byteCells l).length = l.length := by simp [Lib.byteCells]
theorem byteCells_append (l r : List UInt8) : Lib.byteCells (l ++ r) = Lib.byteCells l ++ Lib.byteCells r := by simp [Lib.byteCells]
/-- What a writing call leaves. -/
def Wrote (w : World) (B b : Nat) (l : List UInt8) (w' : World) : Prop := Bld w' B b l ∧ Below B w w' ∧ Lib.OthersKept 5 (some b) w w'
theorem writeByte_any (B b : Nat) (l : List UInt8) (c : UInt8) (m : Int) (hm : m = (c.toNat : Int)) (w : World) (h : Bld w B b l) (hl : l.length ≤ 100000000) (hBw : B ≤ w.heap.size) :
    Calls Tryz.prog 118 #[.pointer (some ⟨b, 0, none⟩), .int .u8 m] w fun e w' => e = .returned .nilIface ∧ Wrote w B b (l ++ [c]) w' := by
  subst hm
  refine (Tryz.writeByte B b (Lib.byteCells l) (c.toNat : Int) w h (by rw [byteCells_length]; omega) hBw).mono ?_
  rintro e w' ⟨rfl, h1, h2, h3⟩
  exact ⟨rfl, .inr (by rw [byteCells_append]; exact h1), h2, h3⟩
theorem writeString_any (B b : Nat) (l t : List UInt8) (w : World) (h : Bld w B b l) (hl : l.length ≤ 100000000) (ht : t.length ≤ 100000000) (hBw : B ≤ w.heap.size) :
    Calls Tryz.prog 50 #[.pointer (some ⟨b, 0, none⟩), .string (mk t)] w fun e w' => e = .returned (.tuple #[.int .i64 (mk t).size, .nilIface]) ∧ Wrote w B b (l ++ t) w' := by
  refine (Tryz.writeString B b (Lib.byteCells l) (mk t) w h (by rw [byteCells_length, mk_size]; omega) hBw).mono ?_
  rintro e w' ⟨rfl, h1, h2, h3⟩
  exact ⟨rfl, .inr (by rw [byteCells_append]; exact h1), h2, h3⟩
set_option maxRecDepth 100000 in
set_option maxHeartbeats 800000 in
theorem writeRow_any (B b : Nat) (l : List UInt8) (A : Option Addr) (n c : Nat) (xs : List (List UInt8)) (mb : UInt8) (m : Int) (hm : m = (mb.toNat : Int)) (w0 w : World) (h : Bld w B b l) (hl : l.length ≤ 100000) (hBw : B ≤ w.heap.size)
    (hr : SRow w0 A n xs) (hb0 : Below w0.heap.size w0 w) (hB0 : w0.heap.size ≤ B) (hc : n ≤ c) (hs : shortB xs = true) :
    Calls Tryz.prog 119 #[.pointer (some ⟨b, 0, none⟩), .slice A n c, .int .u8 m] w fun e w' => e = .returned (.tuple #[]) ∧ Wrote w B b (l ++ rowText mb xs) w' := by
  have hn := hr.1
  have hn40 : n ≤ 40 := by have := ((shortB_iff xs).1 hs).1; omega
  have HN := Lib.hid hn; clear hn
  by_cases h0 : n = 0
  · have HF := Lib.hid (rowText_none (m := mb) (xs := xs) (by rw [HN.out]; exact h0))
    subst h0
    have H := Lib.hid h
    clear h hr hm
    go_enter Tryz.func119, Tryz.ntmps119
    go_wp2
    go_end0
    exact ⟨rfl, by rw [HF.out, List.append_nil]; exact ⟨H.out, Below.refl _ _, Lib.OthersKept.refl _ _ _⟩⟩
  · have HF := Lib.hid (rowText_some (m := mb) (xs := xs) (by rw [HN.out]; exact h0))
    have HJ := Lib.hid (short_joined hs)
    have H := Lib.hid h
    have HR := Lib.hid hr
    have HB0 := Lib.hid hb0
    have HS := Lib.hid hs
    have HM := Lib.hid hm
    have hpos : 0 < n := by omega
    clear h hr hb0 hs h0 hm
    go_enter Tryz.func119, Tryz.ntmps119
    go_wp2_with fail
    refine (writeByte_any B b l mb m HM.out _ H.out (by omega) hBw).mono ?_
    rintro e w1 ⟨rfl, h1, hb1, hk1⟩
    have H1 := Lib.hid h1
    have HB1 := Lib.hid hb1
    have HK1 := Lib.hid hk1
    have HW1 := Lib.hid (HB0.out.trans (hb1.mono hB0))
    have hz1 := hb1.size
    clear h1 hb1 hk1
    go_wp2_with fail
    refine (Ident.text_any _ _ _ xs _ (HR.out.kept HW1.out) hc HS.out).mono ?_
    rintro e w2 ⟨rfl, hb2⟩
    have H2 := Lib.hid (H1.out.kept hb2)
    have HB2 := Lib.hid (HB1.out.trans (hb2.mono (by omega)))
    have HK2 := Lib.hid (HK1.out.trans (others_below (b := some b) hb2))
    have hz2 := hb2.size
    clear hb2
    go_wp2_with fail
    refine (writeString_any B b (l ++ [mb]) (joined xs) _ H2.out (by rw [List.length_append]; simp; omega) (by have := HJ.out; omega) (by omega)).mono ?_
    rintro e w3 ⟨rfl, h3, hb3, hk3⟩
    have H3 := Lib.hid h3
    have HB3 := Lib.hid (HB2.out.trans hb3)
    have HK3 := Lib.hid (HK2.out.trans hk3)
    clear h3 hb3 hk3
    go_wp2
    go_end0
    exact ⟨rfl, by rw [HF.out, ← List.append_assoc]; exact ⟨H3.out, HB3.out, HK3.out⟩⟩
def TextAt (w : World) (v : Ver) (i : Nat) (w' : World) : Prop :=
  (i = 0 ∧ Bld w' (w.heap.size + 1) (w.heap.size + 1) []) ∨ (i = 1 ∧ Bld w' (w.heap.size + 1) (w.heap.size + 1) ([] ++ Lib.decDigits v.a ++ [46])) ∨ (i = 2 ∧ Bld w' (w.heap.size + 1) (w.heap.size + 1) ([] ++ Lib.decDigits v.a ++ [46] ++ Lib.decDigits v.b ++ [46]))
def TextJ (w : World) (v : Ver) (A : Option Addr) (c : Nat) (B : Option Addr) (d : Nat) (a' : Act) (w' : World) : Prop :=
  ∃ (i bc : Nat) (u6 u7 u8 u9 u10 u11 u12 u13 u14 u15 u16 u17 u18 u19 u20 u21 u22 u23 u24 : Value), Below w.heap.size w w' ∧ At5 w' w.heap.size (.int .u64 (v.a : Int)) (.int .u64 (v.b : Int)) (.int .u64 (v.c : Int)) (.slice A v.pre.length c) (.slice B v.build.length d) ∧ w'.heap[bc]? = some (.cells #[.int .u64 (v.a : Int), .int .u64 (v.b : Int), .int .u64 (v.c : Int)] 99) ∧ w.heap.size + 1 < bc ∧ TextAt w v i w' ∧
    a' = { tmps := #[.agg #[.int .u64 (v.a : Int), .int .u64 (v.b : Int), .int .u64 (v.c : Int), .slice A v.pre.length c, .slice B v.build.length d], .pointer (some ⟨w.heap.size, 0, none⟩), .string ⟨#[]⟩, .pointer (some ⟨w.heap.size + 1, 0, none⟩), .pointer (some ⟨bc, 0, none⟩), .int .i64 i, u6, u7, u8, u9, u10, u11, u12, u13, u14, u15, u16, u17, u18, u19, u20, u21, u22, u23, u24], defers := [] }
def TextM (a' : Act) (_ : World) : Nat := 3 - (intOf (a'.tmps.getD 5 undef)).toNat
set_option maxRecDepth 100000 in
set_option maxHeartbeats 3200000 in
theorem vtext_any (v : Ver) (A : Option Addr) (c : Nat) (B : Option Addr) (d : Nat) (w : World) (ha : v.a < 18446744073709551616) (hb : v.b < 18446744073709551616) (hc : v.c < 18446744073709551616)
    (hr1 : SRow w A v.pre.length v.pre) (hr2 : SRow w B v.build.length v.build) (hc1 : v.pre.length ≤ c) (hc2 : v.build.length ≤ d) (hs1 : shortB v.pre = true) (hs2 : shortB v.build = true) (htab : Tab w) :
    Calls Tryz.prog 91 #[.agg #[.int .u64 (v.a : Int), .int .u64 (v.b : Int), .int .u64 (v.c : Int), .slice A v.pre.length c, .slice B v.build.length d]] w fun e w' => e = .returned (.string (mk (vtext v))) ∧ Below w.heap.size w w' := by
  have Ha := Lib.hid ha
  have Hb := Lib.hid hb
  have Hc := Lib.hid hc
  have HDa := Lib.hid (dec_le v.a ha)
  have HDb := Lib.hid (dec_le v.b hb)
  have HDc := Lib.hid (dec_le v.c hc)
  have HR1 := Lib.hid hr1
  have HR2 := Lib.hid hr2
  have HS1 := Lib.hid hs1
  have HS2 := Lib.hid hs2
  have HP1 := Lib.hid (rowText_le (m := 45) hs1)
  have HTab := Lib.hid htab
  clear ha hb hc hr1 hr2 hs1 hs2 htab
  go_enter Tryz.func91, Tryz.ntmps91
  go_wp2
  refine wp_scope_back 0 (TextJ w v A c B d) TextM rfl ?_ ?_
  · rintro a' w0 ⟨i, bc, u6, u7, u8, u9, u10, u11, u12, u13, u14, u15, u16, u17, u18, u19, u20, u21, u22, u23, u24, hbel, h5, hheap, hbc, hat, rfl⟩
    have HB := Lib.hid hbel
    have H5 := Lib.hid h5
    have HC := Lib.hid hheap
    have hz0 := h5.1
    have hzc : bc < w0.heap.size := (Array.getElem?_eq_some_iff.1 hheap).1
    have hx0 : w0.cell? ⟨bc, 0, none⟩ = some (.int .u64 (v.a : Int)) := by rw [Lib.cell_of_heap hheap]; rfl
    have hx1 : w0.cell? ⟨bc, 1, none⟩ = some (.int .u64 (v.b : Int)) := by rw [Lib.cell_of_heap hheap]; rfl
    have hx2 : w0.cell? ⟨bc, 2, none⟩ = some (.int .u64 (v.c : Int)) := by rw [Lib.cell_of_heap hheap]; rfl
    clear hbel h5 hheap
    rcases hat with ⟨rfl, hl⟩ | ⟨rfl, hl⟩ | ⟨rfl, hl⟩
    · have HL := Lib.hid hl; clear hl
      have hlen : ([] : List UInt8).length ≤ 1000 := by simp only [List.length_nil]; omega
      have ht := HTab.out.kept HB.out
      have HT := Lib.hid ht; clear ht
      go_wp2_with fail
      refine (Num.text_any v.a Ha.out _ HT.out).mono ?_
      rintro e w1 ⟨rfl, hb1⟩
      have hz1 := hb1.size
      have L1 := Lib.hid (HL.out.kept hb1)
      have K1 := Lib.hid ((hb1.block bc (Array.getElem?_eq_some_iff.1 HC.out).1).trans HC.out)
      have Q1 := Lib.hid (H5.out.kept hb1 (by omega))
      have B1 := Lib.hid (HB.out.trans (hb1.mono (by omega)))
      clear hb1 HT HL HC H5 hx0 hx1 hx2
      go_wp2_with fail
      refine (writeString_any _ _ _ (Lib.decDigits v.a) _ L1.out (by have := hlen; omega) (by have := HDa.out; omega) (by omega)).mono ?_
      rintro e w2 ⟨rfl, l2, hb2, hk2⟩
      have hz2 := hb2.size
      have L2 := Lib.hid l2
      have K2 := Lib.hid (hk2 _ _ K1.out (by simp; omega) (by intro c fz e; injection e with _ e; exact absurd e (by decide)))
      have Q2 := Lib.hid (Q1.out.kept hb2 (by omega))
      have B2 := Lib.hid (B1.out.trans (hb2.mono (by omega)))
      clear l2 hb2 hk2 L1 K1 Q1 B1
      go_wp2_with fail
      refine (writeByte_any _ _ _ 46 46 rfl _ L2.out (by rw [List.length_append]; have := hlen; have := HDa.out; omega) (by omega)).mono ?_
      rintro e w3 ⟨rfl, l3, hb3, hk3⟩
      have hz3 := hb3.size
      have L3 := Lib.hid l3
      have K3 := Lib.hid (hk3 _ _ K2.out (by simp; omega) (by intro c fz e; injection e with _ e; exact absurd e (by decide)))
      have Q3 := Lib.hid (Q2.out.kept hb3 (by omega))
      have B3 := Lib.hid (B2.out.trans (hb3.mono (by omega)))
      clear l3 hb3 hk3 L2 K2 Q2 B2
      go_wp2
      go_step3
      refine ⟨rfl, ⟨1, bc, _, _, _, _, _, _, _, _, _, _, _, _, _, _, _, _, _, _, _, B3.out, Q3.out, K3.out, hbc, .inr (.inl ⟨rfl, L3.out⟩), rfl⟩, ?_⟩
      simp [TextM, intOf]
    · have HL := Lib.hid hl; clear hl
      have hlen : ([] ++ Lib.decDigits v.a ++ [46] : List UInt8).length ≤ 1000 := by simp only [List.length_append, List.length_singleton, List.length_nil]; have := HDa.out; have := HDb.out; omega
      have ht := HTab.out.kept HB.out
      have HT := Lib.hid ht; clear ht
      go_wp2_with fail
      refine (Num.text_any v.b Hb.out _ HT.out).mono ?_
      rintro e w1 ⟨rfl, hb1⟩
      have hz1 := hb1.size
      have L1 := Lib.hid (HL.out.kept hb1)
      have K1 := Lib.hid ((hb1.block bc (Array.getElem?_eq_some_iff.1 HC.out).1).trans HC.out)
      have Q1 := Lib.hid (H5.out.kept hb1 (by omega))
      have B1 := Lib.hid (HB.out.trans (hb1.mono (by omega)))
      clear hb1 HT HL HC H5 hx0 hx1 hx2
      go_wp2_with fail
      refine (writeString_any _ _ _ (Lib.decDigits v.b) _ L1.out (by have := hlen; omega) (by have := HDb.out; omega) (by omega)).mono ?_
      rintro e w2 ⟨rfl, l2, hb2, hk2⟩
      have hz2 := hb2.size
      have L2 := Lib.hid l2
      have K2 := Lib.hid (hk2 _ _ K1.out (by simp; omega) (by intro c fz e; injection e with _ e; exact absurd e (by decide)))
      have Q2 := Lib.hid (Q1.out.kept hb2 (by omega))
      have B2 := Lib.hid (B1.out.trans (hb2.mono (by omega)))
      clear l2 hb2 hk2 L1 K1 Q1 B1
      go_wp2_with fail
      refine (writeByte_any _ _ _ 46 46 rfl _ L2.out (by rw [List.length_append]; have := hlen; have := HDb.out; omega) (by omega)).mono ?_
      rintro e w3 ⟨rfl, l3, hb3, hk3⟩
      have hz3 := hb3.size
      have L3 := Lib.hid l3
      have K3 := Lib.hid (hk3 _ _ K2.out (by simp; omega) (by intro c fz e; injection e with _ e; exact absurd e (by decide)))
      have Q3 := Lib.hid (Q2.out.kept hb3 (by omega))
      have B3 := Lib.hid (B2.out.trans (hb3.mono (by omega)))
      clear l3 hb3 hk3 L2 K2 Q2 B2
      go_wp2
      go_step3
      refine ⟨rfl, ⟨2, bc, _, _, _, _, _, _, _, _, _, _, _, _, _, _, _, _, _, _, _, B3.out, Q3.out, K3.out, hbc, .inr (.inr ⟨rfl, L3.out⟩), rfl⟩, ?_⟩
      simp [TextM, intOf]
    · have HL := Lib.hid hl; clear hl
      have hlen : ([] ++ Lib.decDigits v.a ++ [46] ++ Lib.decDigits v.b ++ [46] : List UInt8).length ≤ 1000 := by simp only [List.length_append, List.length_singleton, List.length_nil]; have := HDa.out; have := HDb.out; omega
      have ht := HTab.out.kept HB.out
      have HT := Lib.hid ht; clear ht
      go_wp2_with fail
      refine (Num.text_any v.c Hc.out _ HT.out).mono ?_
      rintro e w1 ⟨rfl, hb1⟩
      have hz1 := hb1.size
      have L1 := Lib.hid (HL.out.kept hb1)
      have K1 := Lib.hid ((hb1.block bc (Array.getElem?_eq_some_iff.1 HC.out).1).trans HC.out)
      have Q1 := Lib.hid (H5.out.kept hb1 (by omega))
      have B1 := Lib.hid (HB.out.trans (hb1.mono (by omega)))
      clear hb1 HT HL HC H5 hx0 hx1 hx2
      go_wp2_with fail
      refine (writeString_any _ _ _ (Lib.decDigits v.c) _ L1.out (by have := hlen; omega) (by have := HDc.out; omega) (by omega)).mono ?_
      rintro e w2 ⟨rfl, l2, hb2, hk2⟩
      have hz2 := hb2.size
      have L2 := Lib.hid l2
      have K2 := Lib.hid (hk2 _ _ K1.out (by simp; omega) (by intro c fz e; injection e with _ e; exact absurd e (by decide)))
      have Q2 := Lib.hid (Q1.out.kept hb2 (by omega))
      have B2 := Lib.hid (B1.out.trans (hb2.mono (by omega)))
      clear l2 hb2 hk2 L1 K1 Q1 B1
      obtain ⟨_, _, g0, g1, g2, g3, g4⟩ := Q2.out
      have hlen2 : ([] ++ Lib.decDigits v.a ++ [46] ++ Lib.decDigits v.b ++ [46] ++ Lib.decDigits v.c).length ≤ 1000 := by simp only [List.length_append, List.length_singleton, List.length_nil]; have := HDa.out; have := HDb.out; have := HDc.out; omega
      go_wp2_with fail
      refine (writeRow_any _ _ _ A v.pre.length c v.pre 45 45 rfl w _ L2.out (by omega) (by omega) HR1.out B2.out (by omega) hc1 HS1.out).mono ?_
      rintro e w3 ⟨rfl, l3, hb3, hk3⟩
      have hz3 := hb3.size
      have L3 := Lib.hid l3
      have Q3 := Lib.hid (Q2.out.kept hb3 (by omega))
      have B3 := Lib.hid (B2.out.trans (hb3.mono (by omega)))
      clear l3 hb3 hk3 L2 K2 Q2 B2 g0 g1 g2 g3 g4
      obtain ⟨_, _, g0, g1, g2, g3, g4⟩ := Q3.out
      have hlen3 : ([] ++ Lib.decDigits v.a ++ [46] ++ Lib.decDigits v.b ++ [46] ++ Lib.decDigits v.c ++ rowText 45 v.pre).length ≤ 20000 := by rw [List.length_append]; have := HP1.out; omega
      go_wp2_with fail
      refine (writeRow_any _ _ _ B v.build.length d v.build 43 43 rfl w _ L3.out (by omega) (by omega) HR2.out B3.out (by omega) hc2 HS2.out).mono ?_
      rintro e w4 ⟨rfl, l4, hb4, hk4⟩
      have hz4 := hb4.size
      have L4 := Lib.hid l4
      have B4 := Lib.hid (B3.out.trans (hb4.mono (by omega)))
      clear l4 hb4 hk4 L3 Q3 B3 g0 g1 g2 g3 g4 hlen hlen2 hlen3
      have HTX : Hid ([] ++ Lib.decDigits v.a ++ [46] ++ Lib.decDigits v.b ++ [46] ++ Lib.decDigits v.c ++ rowText 45 v.pre ++ rowText 43 v.build = vtext v) := by unfold Hid vtext; rw [List.nil_append]
      generalize [] ++ Lib.decDigits v.a ++ [46] ++ Lib.decDigits v.b ++ [46] ++ Lib.decDigits v.c ++ rowText 45 v.pre ++ rowText 43 v.build = tx at L4 HTX
      go_wp2_with fail
      refine (Tryz.builderString _ _ _ _ L4.out (by omega)).mono ?_
      rintro e w5 ⟨rfl, _, hb5, _⟩
      have B5 := Lib.hid (B4.out.trans (hb5.mono (by omega)))
      clear hb5
      go_wp2
      simp only [Exit.jump]
      go_ret
      exact ⟨by rw [← HTX.out]; rfl, B5.out⟩
  · intro HP
    have H5 := Lib.hid (At5.new w 25 (.int .u64 (v.a : Int)) (.int .u64 (v.b : Int)) (.int .u64 (v.c : Int)) (.slice A v.pre.length c) (.slice B v.build.length d))
    have HN := Bld.new (w.alloc (.cells #[.int .u64 (v.a : Int), .int .u64 (v.b : Int), .int .u64 (v.c : Int), .slice A v.pre.length c, .slice B v.build.length d] 25)) (w.heap.size + 1) (by simp)
    rw [size_alloc] at HN
    have HBN := Lib.hid HN; clear HN
    go_wp2_with fail
    refine (coreOf_any _ _ _ _ _ _).mono ?_
    rintro e w1 ⟨rfl, hb1⟩
    have hz1 : w.heap.size + 2 ≤ w1.heap.size := by have := hb1.size; simpa using this
    have HBa : Hid (Below w.heap.size w ((w.alloc (.cells #[.int .u64 (v.a : Int), .int .u64 (v.b : Int), .int .u64 (v.c : Int), .slice A v.pre.length c, .slice B v.build.length d] 25)).alloc (.cells #[.pointer none, .slice none 0 0] 71))) := ((Below.refl _ _).alloc (Nat.le_refl _) _).alloc (by simp) _
    have HBb := Lib.hid (HBa.out.trans (hb1.mono (by simp; omega)))
    have H5b := Lib.hid ((H5.out.kept ((Below.refl _ _).alloc (Nat.le_refl _) (.cells #[.pointer none, .slice none 0 0] 71)) (by simp)).kept hb1 (by simp; omega))
    have HLb := Lib.hid (HBN.out.kept hb1)
    have HBc := Lib.hid ((Below.refl w1.heap.size w1).alloc (Nat.le_refl _) (.cells #[.int .u64 (v.a : Int), .int .u64 (v.b : Int), .int .u64 (v.c : Int)] 99))
    have HBd := Lib.hid (HBb.out.trans (HBc.out.mono (by omega)))
    have H5d := Lib.hid (H5b.out.kept HBc.out (by omega))
    have HLd := Lib.hid (HLb.out.kept HBc.out)
    have HCd : Hid ((w1.alloc (.cells #[.int .u64 (v.a : Int), .int .u64 (v.b : Int), .int .u64 (v.c : Int)] 99)).heap[w1.heap.size]? = some (.cells #[.int .u64 (v.a : Int), .int .u64 (v.b : Int), .int .u64 (v.c : Int)] 99)) := by
      show (w1.heap.push _)[w1.heap.size]? = _
      simp
    clear hb1 H5 HBN HBa HBb H5b HLb HBc
    go_wp2
    go_step3
    rename_i hK
    exact hK _ _ (HP.out _ _ ⟨0, w1.heap.size, _, _, _, _, _, _, _, _, _, _, _, _, _, _, _, _, _, _, _, HBd.out, H5d.out, HCd.out, by omega, .inl ⟨rfl, HLd.out⟩, rfl⟩)
end Go.Proofs.YtgfbflnhjpbceaaGreatDoor.Semver

namespace Go.Proofs.YtgfbflnhjpbceaaGreatDoor.Semver
open Go.RowKit Num Ident

def HeldAt (x y z i : Nat) : Prop := i = 0 ∨ (i = 1 ∧ x ≤ maxField) ∨ (i = 2 ∧ x ≤ maxField ∧ y ≤ maxField) ∨ (i = 3 ∧ x ≤ maxField ∧ y ≤ maxField ∧ z ≤ maxField)
def HeldJ (w : World) (x y z : Nat) (a' : Act) (w' : World) : Prop :=
  ∃ (i : Nat) (u4 u5 u6 u7 u8 u9 u10 u11 : Value), w' = w.alloc (.cells #[.int .u64 (x : Int), .int .u64 (y : Int), .int .u64 (z : Int)] 99) ∧ HeldAt x y z i ∧
    a' = { tmps := #[.agg #[.int .u64 (x : Int), .int .u64 (y : Int), .int .u64 (z : Int)], .pointer (some ⟨w.heap.size, 0, none⟩), .bool false, .int .i64 i, u4, u5, u6, u7, u8, u9, u10, u11], defers := [] }
def HeldM (a' : Act) (_ : World) : Nat := 4 - (intOf (a'.tmps.getD 3 undef)).toNat
set_option maxRecDepth 100000 in
set_option maxHeartbeats 800000 in
theorem held_any (x y z : Nat) (w : World) :
    Calls Tryz.prog 70 #[.agg #[.int .u64 (x : Int), .int .u64 (y : Int), .int .u64 (z : Int)]] w fun e w' => e = .returned (.bool (heldB x y z)) ∧ Below w.heap.size w w' := by
  have HB : Hid (Below w.heap.size w (w.alloc (.cells #[.int .u64 (x : Int), .int .u64 (y : Int), .int .u64 (z : Int)] 99))) := (Below.refl _ _).alloc (Nat.le_refl _) _
  go_enter Tryz.func70, Tryz.ntmps70
  go_wp2
  refine wp_scope_back 0 (HeldJ w x y z) HeldM rfl ?_ ?_
  · rintro a' w1 ⟨i, u4, u5, u6, u7, u8, u9, u10, u11, rfl, hat, rfl⟩
    rcases hat with rfl | ⟨rfl, h1⟩ | ⟨rfl, h1, h2⟩ | ⟨rfl, h1, h2, h3⟩
    · by_cases hx : (x : Int) ≤ 9223372036854775807
      · have HX := Lib.hid (field_le hx)
        go_wp2
        go_step3
        refine ⟨rfl, ⟨1, _, _, _, _, _, _, _, _, rfl, .inr (.inl ⟨rfl, HX.out⟩), rfl⟩, ?_⟩
        simp [HeldM, intOf]
      · have HF : Hid (heldB x y z = false) := heldB_no fun hh => field_no hx hh.1
        have hx2 : (9223372036854775807 : Int) < (x : Int) := by omega
        clear hx
        go_wp2
        simp only [Exit.jump]
        go_ret
        exact ⟨by rw [HF.out]; rfl, HB.out⟩
    · have H1 := Lib.hid h1; clear h1
      by_cases hx : (y : Int) ≤ 9223372036854775807
      · have HX := Lib.hid (field_le hx)
        go_wp2
        go_step3
        refine ⟨rfl, ⟨2, _, _, _, _, _, _, _, _, rfl, .inr (.inr (.inl ⟨rfl, H1.out, HX.out⟩)), rfl⟩, ?_⟩
        simp [HeldM, intOf]
      · have HF : Hid (heldB x y z = false) := heldB_no fun hh => field_no hx hh.2.1
        have hx2 : (9223372036854775807 : Int) < (y : Int) := by omega
        clear hx
        go_wp2
        simp only [Exit.jump]
        go_ret
        exact ⟨by rw [HF.out]; rfl, HB.out⟩
    · have H1 := Lib.hid h1; clear h1; have H2 := Lib.hid h2; clear h2
      by_cases hx : (z : Int) ≤ 9223372036854775807
      · have HX := Lib.hid (field_le hx)
        go_wp2
        go_step3
        refine ⟨rfl, ⟨3, _, _, _, _, _, _, _, _, rfl, .inr (.inr (.inr ⟨rfl, H1.out, H2.out, HX.out⟩)), rfl⟩, ?_⟩
        simp [HeldM, intOf]
      · have HF : Hid (heldB x y z = false) := heldB_no fun hh => field_no hx hh.2.2
        have hx2 : (9223372036854775807 : Int) < (z : Int) := by omega
        clear hx
        go_wp2
        simp only [Exit.jump]
        go_ret
        exact ⟨by rw [HF.out]; rfl, HB.out⟩
    · have HF := Lib.hid (heldB_yes h1 h2 h3)
      clear h1 h2 h3
      go_wp2
      simp only [Exit.jump]
      go_ret
      exact ⟨by rw [HF.out]; rfl, HB.out⟩
  · intro HP
    go_wp2
    go_step3
    rename_i hK
    exact hK _ _ (HP.out _ _ ⟨0, _, _, _, _, _, _, _, _, rfl, .inl rfl, rfl⟩)
set_option maxRecDepth 100000 in
set_option maxHeartbeats 1600000 in
theorem vgood_any (v : Ver) (A : Option Addr) (c : Nat) (B : Option Addr) (d : Nat) (w : World) (hr1 : SRow w A v.pre.length v.pre) (hr2 : SRow w B v.build.length v.build)
    (hn1 : v.pre.length ≤ maxLen) (hn2 : v.build.length ≤ maxLen) (hx1 : ∀ x ∈ v.pre, x.length ≤ maxLen) (hx2 : ∀ x ∈ v.build, x.length ≤ maxLen) :
    Calls Tryz.prog 37 #[.agg #[.int .u64 (v.a : Int), .int .u64 (v.b : Int), .int .u64 (v.c : Int), .slice A v.pre.length c, .slice B v.build.length d]] w fun e w' => e = .returned (.bool (goodV v)) ∧ Below w.heap.size w w' := by
  have R1 := Lib.hid hr1
  have R2 := Lib.hid hr2
  have N1 := Lib.hid hn1
  have N2 := Lib.hid hn2
  have X1 := Lib.hid hx1
  have X2 := Lib.hid hx2
  clear hr1 hr2 hn1 hn2 hx1 hx2
  have HBa := Lib.hid ((Below.refl w.heap.size w).alloc (Nat.le_refl _) (.cells #[.int .u64 (v.a : Int), .int .u64 (v.b : Int), .int .u64 (v.c : Int), .slice A v.pre.length c, .slice B v.build.length d] 25))
  have K0 := Lib.hid (At5.new w 25 (.int .u64 (v.a : Int)) (.int .u64 (v.b : Int)) (.int .u64 (v.c : Int)) (.slice A v.pre.length c) (.slice B v.build.length d))
  have HG : Hid (goodV v = (heldB v.a v.b v.c && (goodFrom true v.pre 0 && goodFrom false v.build 0))) := rfl
  go_enter Tryz.func37, Tryz.ntmps37
  go_wp2_with fail
  refine (coreOf_any _ _ _ _ _ _).mono ?_
  rintro e w1 ⟨rfl, hb1⟩
  have K1 := Lib.hid (K0.out.kept hb1 (by simp))
  have B1 := Lib.hid (HBa.out.trans (hb1.mono (by simp)))
  have hz1 := K1.out.1
  clear hb1 K0 HBa
  go_wp2_with fail
  refine (held_any _ _ _ _).mono ?_
  rintro e w2 ⟨rfl, hb2⟩
  have K2 := Lib.hid (K1.out.kept hb2 (by omega))
  have B2 := Lib.hid (B1.out.trans (hb2.mono (by omega)))
  have hz2 := K2.out.1
  clear hb2 K1 B1
  generalize heldB v.a v.b v.c = g1 at HG ⊢
  obtain ⟨_, _, x0, x1, x2, x3, x4⟩ := K2.out
  cases g1
  · go_wp2
    go_ret
    exact ⟨by rw [HG.out]; rfl, B2.out⟩
  go_wp2_with fail
  refine (good_any _ _ _ v.pre true _ (R1.out.kept B2.out) N1.out X1.out).mono ?_
  rintro e w3 ⟨rfl, hb3⟩
  have K3 := Lib.hid (K2.out.kept hb3 (by omega))
  have B3 := Lib.hid (B2.out.trans (hb3.mono (by omega)))
  clear hb3 x0 x1 x2 x3 x4
  generalize goodFrom true v.pre 0 = g2 at HG ⊢
  obtain ⟨hz3, _, x0, x1, x2, x3, x4⟩ := K3.out
  cases g2
  · go_wp2
    go_ret
    exact ⟨by rw [HG.out]; rfl, B3.out⟩
  go_wp2_with fail
  refine (good_any _ _ _ v.build false _ (R2.out.kept B3.out) N2.out X2.out).mono ?_
  rintro e w4 ⟨rfl, hb4⟩
  have B4 := Lib.hid (B3.out.trans (hb4.mono (by omega)))
  clear hb4 x0 x1 x2 x3 x4
  go_wp2
  go_ret
  exact ⟨by rw [HG.out]; simp, B4.out⟩
end Go.Proofs.YtgfbflnhjpbceaaGreatDoor.Semver

namespace Go.Proofs.YtgfbflnhjpbceaaGreatDoor.Num
open Go.RowKit
/-- What number answers for digits. -/
def numOut (l : List UInt8) : Value := if val l ≤ maxField then .tuple #[.int .u64 (val l), .bool true] else .tuple #[.int .u64 0, .bool false]
theorem numOut_yes {l : List UInt8} (h : val l ≤ maxField) : numOut l = .tuple #[.int .u64 (val l), .bool true] := by unfold numOut; rw [if_pos h]
theorem numOut_no {l : List UInt8} (h : ¬ val l ≤ maxField) : numOut l = .tuple #[.int .u64 0, .bool false] := by unfold numOut; rw [if_neg h]
def NumJ (w : World) (A : Option Addr) (n c : Nat) (l : List UInt8) (a' : Act) (w' : World) : Prop :=
  w = w' ∧ ∃ (k : Nat) (v : Int) (u5 u6 u7 u8 u9 u10 u11 u12 u13 u14 u15 u16 u17 u18 u19 u20 u21 u22 u23 u24 u25 u26 u27 : Value), k ≤ n ∧ v = (val (l.take k) : Int) ∧ v ≤ 9223372036854775807 ∧ a' = { tmps := #[.slice A n c, undef, .int .u64 v, .bool false, .int .i64 k, u5, u6, u7, u8, u9, u10, u11, u12, u13, u14, u15, u16, u17, u18, u19, u20, u21, u22, u23, u24, u25, u26, u27], defers := [] }
def NumM (n : Nat) (a' : Act) (_ : World) : Nat := n - (intOf (a'.tmps.getD 4 undef)).toNat

set_option maxRecDepth 100000 in
set_option maxHeartbeats 400000 in
theorem number_any (A : Option Addr) (n c : Nat) (l : List UInt8) (w : World) (h : Row w A n l) (hd : AllDig l) :
    Calls Tryz.prog 201 #[.slice A n c] w fun e w' => e = .returned (numOut l) ∧ w = w' := by
  obtain ⟨hl, hm, hc⟩ := h
  unfold maxLen at hm
  have HC := Lib.hid hc; clear hc
  have HL := Lib.hid hl; clear hl
  have HD := Lib.hid hd; clear hd
  go_enter Tryz.func201, Tryz.ntmps201
  go_wp2
  refine wp_scope_back 0 (NumJ w A n c l) (NumM n) rfl ?_ ?_
  · rintro a' w' ⟨rfl, k, v, u5, u6, u7, u8, u9, u10, u11, u12, u13, u14, u15, u16, u17, u18, u19, u20, u21, u22, u23, u24, u25, u26, u27, hk, hv, hv2, rfl⟩
    have hv1 : 0 ≤ v := by rw [hv]; exact Int.natCast_nonneg _
    have HV := Lib.hid hv; clear hv
    by_cases hlt : k < n
    · obtain ⟨b, o, rfl, hb, hcell⟩ := HC.out (by omega)
      have hx := hcell k hlt
      clear hcell HC
      have hbd := (isDig_at l k).1 (allDig_getD HD.out (by rw [HL.out]; exact hlt))
      obtain ⟨x, hxe⟩ : ∃ x, x = byteAt l k := ⟨_, rfl⟩
      rw [← hxe] at hx hbd
      have HX := Lib.hid hxe; clear hxe
      obtain ⟨h1, h2⟩ := hbd
      have hne : ((k : Int) == (n : Int)) = false := by simp; omega
      have HT : Hid ((val (l.take (k + 1)) : Int) = 10 * v + (x - 48)) := by
        unfold Hid
        rw [take_snoc l k (by rw [HL.out]; exact hlt), val_snoc, HV.out]
        have := HX.out; unfold byteAt at this; omega
      by_cases hg : v ≤ (9223372036854775807 - (x - 48)) / 10
      · go_wp2
        go_step3
        rw [show ((k : Int) + 1) = ((k + 1 : Nat) : Int) from rfl]
        exact ⟨rfl, ⟨rfl, k + 1, _, _, _, _, _, _, _, _, _, _, _, _, _, _, _, _, _, _, _, _, _, _, _, _, by omega, HT.out.symm, by omega, rfl⟩, by simp [NumM, intOf]; omega⟩
      · have HN : Hid (¬ val l ≤ maxField) := by
          have h3 := val_take_le l (k + 1)
          have h4 := HT.out
          unfold Hid maxField; omega
        go_wp2
        simp only [Exit.jump]
        go_ret2
        exact ⟨by rw [numOut_no HN.out]; rfl, rfl⟩
    · obtain rfl : k = n := by omega
      have HV2 : Hid (v = (val l : Int)) := by have := HV.out; rw [List.take_of_length_le (by rw [HL.out]; exact Nat.le_refl _)] at this; exact this
      have HN : Hid (val l ≤ maxField) := by have := HV2.out; unfold Hid maxField; omega
      have hne : ((k : Int) == (k : Int)) = true := by simp
      go_wp2
      simp only [Exit.jump]
      go_ret2
      exact ⟨by rw [numOut_yes HN.out, ← HV2.out]; rfl, rfl⟩
  · intro HP
    go_wp2
    go_step3
    rename_i hK
    exact hK _ _ (HP.out _ _ ⟨rfl, 0, 0, _, _, _, _, _, _, _, _, _, _, _, _, _, _, _, _, _, _, _, _, _, _, _, by omega, by simp [val, valFrom], by omega, rfl⟩)

/-- What Parse answers, as a value. -/
def parseOut (l : List UInt8) (p : Int) : Value := .tuple #[.int .u64 ((parse l p).1 : Int), .int .i64 ((parse l p).2.1 : Int), .int .i64 ((parse l p).2.2 : Int)]

set_option maxRecDepth 100000 in
set_option maxHeartbeats 400000 in
theorem parse_out (A : Option Addr) (n c : Nat) (l : List UInt8) (p : Int) (w : World) (h : Row w A n l) (ho : p < 0 ∨ (n : Int) < p) :
    Calls Tryz.prog 192 #[.slice A n c, .int .i64 p] w fun e w' => e = .returned (parseOut l p) ∧ w = w' := by
  have HE : Hid (parse l p = (0, 0, 1)) := by
    unfold Hid parse; rw [if_pos (by rw [h.1]; exact ho)]
  clear h
  by_cases h0 : p < 0
  · go_enter Tryz.func192, Tryz.ntmps192
    go_wp2
    go_ret3
    exact ⟨by unfold parseOut; rw [HE.out]; rfl, rfl⟩
  · have h1 : (n : Int) < p := by omega
    clear ho
    go_enter Tryz.func192, Tryz.ntmps192
    go_wp2
    go_ret3
    exact ⟨by unfold parseOut; rw [HE.out]; rfl, rfl⟩

/-- The digits at a place, and what Parse answers of them. -/
theorem parse_at (l : List UInt8) (p : Nat) (hp : p ≤ l.length) (d : List UInt8) (hd : (l.drop p).take (run (l.drop p)) = d) :
    parse l p = if d.length = 0 then (0, 0, 2) else if pad d = true then (0, 0, 3) else if maxField < val d then (0, 0, 4) else (val d, d.length, 0) := by
  subst hd; unfold parse; rw [if_neg (by omega), Int.toNat_natCast]

set_option maxRecDepth 100000 in
set_option maxHeartbeats 400000 in
theorem parse_in (A : Option Addr) (n c : Nat) (l : List UInt8) (p : Nat) (w : World) (h : Row w A n l) (hc : n ≤ c) (hp : p ≤ n) :
    Calls Tryz.prog 192 #[.slice A n c, .int .i64 p] w fun e w' => e = .returned (parseOut l p) ∧ w = w' := by
  have hm := h.2.1
  unfold maxLen at hm
  have hp0 : ¬ (p : Int) < 0 := by omega
  have hp1 : ¬ n < p := by omega
  by_cases hcp : c = p
  · have hn : n = p := by omega
    subst hcp
    subst hn
    have HE : Hid (parse l n = (0, 0, 2)) := by
      have e := parse_at l n (by rw [h.1]; exact Nat.le_refl _) [] (by rw [List.drop_eq_nil_of_le (by rw [h.1]; exact Nat.le_refl _)]; rfl)
      exact e.trans (if_pos rfl)
    have R1 : Row w A 0 [] := ⟨rfl, by omega, fun h0 => by omega⟩
    have H1 := Lib.hid R1
    clear h R1 hc hp
    go_enter Tryz.func192, Tryz.ntmps192
    go_wp2_with fail
    refine (digits_any _ _ _ _ _ H1.out).mono ?_
    rintro e w' ⟨rfl, rfl⟩
    rw [show run [] = 0 from rfl]
    go_wp2
    go_ret3
    exact ⟨by unfold parseOut; rw [HE.out]; rfl, rfl⟩
  · obtain ⟨m, hM⟩ : ∃ m, run (l.drop p) = m := ⟨_, rfl⟩
    have hpm : p + m ≤ n := by have := run_le (l.drop p); rw [hM, List.length_drop, h.1] at this; omega
    have R1 : Row w (A.map (fun x => x.add p)) (n - p) (l.drop p) := by
      have := h.piece (A' := A.map (fun x => x.add p)) p (n - p) (by omega) (fun _ b o e => map_add p A b o e)
      rwa [List.take_of_length_le (by rw [List.length_drop, h.1]; exact Nat.le_refl _)] at this
    obtain ⟨d, hd⟩ : ∃ d, (l.drop p).take m = d := ⟨_, rfl⟩
    have R2 : Row w (A.map (fun x => x.add p)) m d := by
      have := h.piece (A' := A.map (fun x => x.add p)) p m hpm (fun _ b o e => map_add p A b o e)
      rwa [hd] at this
    have HAD : Hid (AllDig d) := by have := allDig_take_run (l.drop p); rw [hM, hd] at this; exact this
    have HE : Hid (parse l p = if d.length = 0 then (0, 0, 2) else if pad d = true then (0, 0, 3) else if maxField < val d then (0, 0, 4) else (val d, d.length, 0)) :=
      parse_at l p (by rw [h.1]; exact hp) d (by rw [hM]; exact hd)
    have hdl := R2.1
    rw [hdl] at HE
    have H1 := Lib.hid R1
    have H2 := Lib.hid R2
    have HM := Lib.hid hM
    clear h R1 R2 hM hd hdl
    go_enter Tryz.func192, Tryz.ntmps192
    go_wp2_with fail
    refine (digits_any _ _ _ _ _ H1.out).mono ?_
    rintro e w' ⟨rfl, rfl⟩
    rw [HM.out]
    by_cases h0 : m = 0
    · have HF : Hid (parse l p = (0, 0, 2)) := by have := HE.out; rw [if_pos h0] at this; exact this
      subst h0
      go_wp2
      go_ret3
      exact ⟨by unfold parseOut; rw [HF.out]; rfl, rfl⟩
    · have hb : ((m : Int) == 0) = false := by simp [h0]
      have HE2 : Hid (parse l p = if pad d = true then (0, 0, 3) else if maxField < val d then (0, 0, 4) else (val d, m, 0)) := by have := HE.out; rw [if_neg h0] at this; exact this
      clear HE
      go_wp2_with fail
      refine (padded_any _ _ _ _ _ H2.out).mono ?_
      rintro e w' ⟨rfl, rfl⟩
      by_cases hpd : pad d = true
      · have HF : Hid (parse l p = (0, 0, 3)) := by have := HE2.out; rw [if_pos hpd] at this; exact this
        rw [hpd]
        go_wp2
        go_ret3
        exact ⟨by unfold parseOut; rw [HF.out]; rfl, rfl⟩
      · have HE3 : Hid (parse l p = if maxField < val d then (0, 0, 4) else (val d, m, 0)) := by have := HE2.out; rw [if_neg hpd] at this; exact this
        rw [show pad d = false from by simpa using hpd]
        clear hpd HE2
        go_wp2_with fail
        refine (number_any _ _ _ _ _ H2.out HAD.out).mono ?_
        rintro e w' ⟨rfl, rfl⟩
        by_cases hv : val d ≤ maxField
        · have HF : Hid (parse l p = (val d, m, 0)) := by have := HE3.out; rw [if_neg (by omega)] at this; exact this
          rw [numOut_yes hv]
          have HV := Lib.hid hv; clear hv
          go_wp2
          go_ret3
          exact ⟨by unfold parseOut; rw [HF.out]; rfl, rfl⟩
        · have HF : Hid (parse l p = (0, 0, 4)) := by have := HE3.out; rw [if_pos (by omega)] at this; exact this
          rw [numOut_no hv]
          have HV := Lib.hid hv; clear hv
          go_wp2
          go_ret3
          exact ⟨by unfold parseOut; rw [HF.out]; rfl, rfl⟩

/-- Parse, at any place. -/
theorem parse_any (A : Option Addr) (n c : Nat) (l : List UInt8) (p : Int) (w : World) (h : Row w A n l) (hc : n ≤ c) :
    Calls Tryz.prog 192 #[.slice A n c, .int .i64 p] w fun e w' => e = .returned (parseOut l p) ∧ w = w' := by
  by_cases ho : p < 0 ∨ (n : Int) < p
  · exact parse_out A n c l p w h ho
  · obtain ⟨k, rfl⟩ := Int.eq_ofNat_of_zero_le (show 0 ≤ p by omega)
    exact parse_in A n c l k w h hc (by omega)
end Go.Proofs.YtgfbflnhjpbceaaGreatDoor.Num

namespace Go.Proofs.YtgfbflnhjpbceaaGreatDoor.Semver
open Num Ident

/-- Two numerals of one number are one. -/
theorem num_inj {x y : List UInt8} (hx : isNum x = true) (hy : isNum y = true) (h : val x = val y) : x = y := by
  rcases Nat.lt_trichotomy x.length y.length with hl | hl | hl
  · have := shorter hx hy hl; omega
  · have h1 := (isNum_iff x).1 hx
    have h2 := (isNum_iff y).1 hy
    exact val_inj x y (all_of_run h1.2.1) (all_of_run h2.2.1) hl h
  · have := shorter hy hx hl; omega

/-! What is read. -/
theorem parse_read {l : List UInt8} {p v m : Nat} (hp : p ≤ l.length) (h : parse l p = (v, m, 0)) : l.drop p = Lib.decDigits v ++ l.drop (p + m) ∧ v ≤ maxField := by
  obtain ⟨d, hd⟩ : ∃ d, (l.drop p).take (run (l.drop p)) = d := ⟨_, rfl⟩
  have e := parse_at l p hp d hd
  rw [h] at e
  have ha : AllDig d := by rw [← hd]; exact allDig_take_run _
  by_cases h0 : d.length = 0
  · rw [if_pos h0] at e; simp at e
  · rw [if_neg h0] at e
    by_cases h1 : pad d = true
    · rw [if_pos h1] at e; simp at e
    · rw [if_neg h1] at e
      by_cases h2 : maxField < val d
      · rw [if_pos h2] at e; simp at e
      · rw [if_neg h2] at e
        injection e with e1 e2
        injection e2 with e2 _
        have hn : isNum d = true := by
          rw [isNum_iff]
          exact ⟨by omega, run_all ha, by simpa using h1⟩
        have hdec : d = Lib.decDigits v := num_inj hn (dec_num v) (by rw [dec_val, e1])
        have hm : m = run (l.drop p) := by
          rw [e2, ← hd, List.length_take]
          have := run_le (l.drop p); omega
        refine ⟨?_, by omega⟩
        rw [← hdec, ← hd, ← hm, ← List.drop_drop, List.take_append_drop]
theorem point_read {l : List UInt8} {q : Nat} (hq : q ≤ l.length) (h : point l q = 0) : l.drop q = 46 :: l.drop (q + 1) := by
  have hlt := point_lt hq h
  rw [drop_getD l q hlt]
  unfold point at h
  rw [if_neg (by omega)] at h
  by_cases h2 : byteAt l q ≠ 46
  · rw [if_pos h2] at h; omega
  · have h3 : byteAt l q = 46 := by simpa using h2
    have : l.getD q 0 = 46 := UInt8.toNat_inj.1 (show (l.getD q 0).toNat = 46 by unfold byteAt at h3; omega)
    rw [this]
theorem core2_read {l : List UInt8} {p x y z q a b : Nat} (hp : p ≤ l.length) (h : core2 l x y p = (0, q, a, b, z)) : a = x ∧ b = y ∧ l.drop p = Lib.decDigits z ++ l.drop q ∧ z ≤ maxField := by
  unfold core2 at h
  obtain ⟨⟨v, m, f⟩, hk⟩ : ∃ t, parse l p = t := ⟨_, rfl⟩
  rw [hk] at h
  by_cases h0 : f ≠ 0
  · rw [if_pos h0] at h; injection h with h; exact absurd h h0
  · have hf : f = 0 := by simpa using h0
    subst hf
    rw [if_neg (by simp)] at h
    simp only [Prod.mk.injEq, true_and] at h
    obtain ⟨rfl, rfl, rfl, rfl⟩ := h
    exact ⟨rfl, rfl, parse_read hp hk⟩
theorem core1_read {l : List UInt8} {p x y z q a : Nat} (hp : p ≤ l.length) (h : core1 l x p = (0, q, a, y, z)) : a = x ∧ l.drop p = Lib.decDigits y ++ 46 :: (Lib.decDigits z ++ l.drop q) ∧ y ≤ maxField ∧ z ≤ maxField := by
  unfold core1 at h
  obtain ⟨⟨v, m, f⟩, hk⟩ : ∃ t, parse l p = t := ⟨_, rfl⟩
  have hpe := parse_end l p hp
  rw [hk] at h hpe
  by_cases h0 : f ≠ 0
  · rw [if_pos h0] at h; injection h with h; exact absurd h h0
  · have hf : f = 0 := by simpa using h0
    subst hf
    rw [if_neg (by simp)] at h
    simp only at h hpe
    unfold after2 at h
    by_cases h1 : point l (p + m) ≠ 0
    · rw [if_pos h1] at h; injection h with h; exact absurd h h1
    · rw [if_neg h1] at h
      have h1' : point l (p + m) = 0 := by simpa using h1
      obtain ⟨rfl, rfl, e1, e2⟩ := core2_read (point_lt hpe h1') h
      obtain ⟨e3, e4⟩ := parse_read hp hk
      exact ⟨rfl, by rw [e3, point_read hpe h1', e1], e4, e2⟩
theorem core_read {l : List UInt8} {p x y z q : Nat} (hp : p ≤ l.length) (h : core l p = (0, q, x, y, z)) :
    l.drop p = Lib.decDigits x ++ 46 :: (Lib.decDigits y ++ 46 :: (Lib.decDigits z ++ l.drop q)) ∧ x ≤ maxField ∧ y ≤ maxField ∧ z ≤ maxField := by
  unfold core at h
  obtain ⟨⟨v, m, f⟩, hk⟩ : ∃ t, parse l p = t := ⟨_, rfl⟩
  have hpe := parse_end l p hp
  rw [hk] at h hpe
  by_cases h0 : f ≠ 0
  · rw [if_pos h0] at h; injection h with h; exact absurd h h0
  · have hf : f = 0 := by simpa using h0
    subst hf
    rw [if_neg (by simp)] at h
    simp only at h hpe
    unfold after1 at h
    by_cases h1 : point l (p + m) ≠ 0
    · rw [if_pos h1] at h; injection h with h; exact absurd h h1
    · rw [if_neg h1] at h
      have h1' : point l (p + m) = 0 := by simpa using h1
      obtain ⟨rfl, e1, e2, e5⟩ := core1_read (point_lt hpe h1') h
      obtain ⟨e3, e4⟩ := parse_read hp hk
      exact ⟨by rw [e3, point_read hpe h1', e1], e4, e2, e5⟩

theorem joined_byte (acc : List (List UInt8)) (w : List UInt8) (b : UInt8) : joined (acc ++ [w ++ [b]]) = joined (acc ++ [w]) ++ [b] := by
  cases acc with
  | nil => rw [List.nil_append, List.nil_append, joined_one, joined_one]
  | cons x r => rw [joined_snoc _ _ (by simp), joined_snoc _ _ (by simp), List.append_assoc, List.append_assoc, List.append_assoc]
theorem joined_point (acc : List (List UInt8)) (w : List UInt8) : joined (acc ++ [w] ++ [[]]) = joined (acc ++ [w]) ++ [46] := by
  rw [joined_snoc _ _ (by simp), List.append_nil]
theorem goodFrom_snoc (pre : Bool) (acc : List (List UInt8)) (w : List UInt8) (i : Nat) : goodFrom pre (acc ++ [w]) i = (goodFrom pre acc i && (fault w (i + acc.length) pre == 0 && lead w == w.length)) := by
  induction acc generalizing i with
  | nil => simp [goodFrom]
  | cons x r ih =>
    rw [List.cons_append, goodFrom, goodFrom, ih, List.length_cons, show i + 1 + r.length = i + (r.length + 1) by omega]
    simp only [Bool.and_assoc]
/-- A row that is read. -/
theorem go_read {pre : Bool} : ∀ (r w : List UInt8) (acc : List (List UInt8)) (n N : Nat) (xs : List (List UInt8)), (∀ b ∈ w, isId b = true) → goodFrom pre acc 0 = true → go pre r w acc n = (0, N, xs) →
    ∃ k, N = n + k ∧ k ≤ r.length ∧ joined (acc ++ [w]) ++ r.take k = joined xs ∧ xs ≠ [] ∧ goodFrom pre xs 0 = true := by
  have hshut : ∀ (r w : List UInt8) (acc : List (List UInt8)) (n N : Nat) (xs : List (List UInt8)), (∀ b ∈ w, isId b = true) → goodFrom pre acc 0 = true → shut pre w acc n = (0, N, xs) →
      ∃ k, N = n + k ∧ k ≤ r.length ∧ joined (acc ++ [w]) ++ r.take k = joined xs ∧ xs ≠ [] ∧ goodFrom pre xs 0 = true := by
    intro r w acc n N xs hw hg h
    unfold shut at h
    split at h
    · rename_i hf
      simp only [Prod.mk.injEq, true_and] at h
      obtain ⟨rfl, rfl⟩ := h
      refine ⟨0, by omega, Nat.zero_le _, by simp, by simp, ?_⟩
      rw [goodFrom_snoc, hg, Nat.zero_add, hf, lead_full.2 hw]; simp
    · rename_i hf
      injection h with h
      exact absurd h hf
  intro r
  induction r with
  | nil => intro w acc n N xs hw hg h; rw [go] at h; exact hshut [] w acc n N xs hw hg h
  | cons b r ih =>
    intro w acc n N xs hw hg h
    by_cases hb : isId b = true
    · rw [go_id hb] at h
      obtain ⟨k, e1, e2, e3, e4⟩ := ih (w ++ [b]) acc (n + 1) N xs (fun c hc => by rcases List.mem_append.1 hc with hc | hc; (· exact hw c hc); (· simp at hc; rw [hc]; exact hb)) hg h
      refine ⟨k + 1, by omega, by simp; exact e2, ?_, e4⟩
      rw [joined_byte, List.append_assoc] at e3
      rw [List.take_succ_cons]; exact e3
    · have hb' : isId b = false := by simpa using hb
      by_cases h46 : b.toNat = 46
      · by_cases hf : fault w acc.length pre = 0
        · rw [go_point h46 hf] at h
          obtain ⟨k, e1, e2, e3, e4⟩ := ih [] (acc ++ [w]) (n + 1) N xs (by simp) (by rw [goodFrom_snoc, hg, Nat.zero_add, hf, lead_full.2 hw]; simp) h
          refine ⟨k + 1, by omega, by simp; exact e2, ?_, e4⟩
          have eb : b = 46 := UInt8.toNat_inj.1 h46
          rw [joined_point, List.append_assoc] at e3
          rw [List.take_succ_cons, eb]; exact e3
        · rw [go_bad hb' hf] at h
          injection h with h
          exact absurd h hf
      · rw [go_else hb' h46] at h
        exact hshut (b :: r) w acc n N xs hw hg h
theorem row_read {l : List UInt8} {p N : Nat} {pre : Bool} {xs : List (List UInt8)} (hp : p ≤ l.length) (h : row l p pre = (0, N, xs)) : l.drop p = joined xs ++ l.drop (p + N) ∧ xs ≠ [] ∧ goodFrom pre xs 0 = true := by
  unfold row at h
  rw [if_neg (by omega), Int.toNat_natCast] at h
  obtain ⟨k, e1, e2, e3, e4, e5⟩ := go_read (l.drop p) [] [] 0 N xs (by simp) rfl h
  rw [List.nil_append, joined_one, List.nil_append] at e3
  refine ⟨?_, e4, e5⟩
  rw [← e3, show N = k by omega, ← List.drop_drop, List.take_append_drop]
theorem rowAt_read {l : List UInt8} {p m q : Nat} {mb : UInt8} {xs : List (List UInt8)} (hm : m = mb.toNat) (hp : p ≤ l.length) (h : rowAt l p m = (0, q, xs)) : l.drop p = rowText mb xs ++ l.drop q ∧ goodFrom (m == 45) xs 0 = true := by
  by_cases h0 : p = l.length ∨ byteAt l p ≠ (m : Int)
  · rw [rowAt_none h0] at h
    simp only [Prod.mk.injEq, true_and] at h
    obtain ⟨rfl, rfl⟩ := h
    exact ⟨by rw [rowText_none rfl]; rfl, rfl⟩
  · have h1 : p ≠ l.length := fun e => h0 (.inl e)
    have h2 : byteAt l p = (m : Int) := by
      by_cases e : byteAt l p = (m : Int)
      · exact e
      · exact absurd (.inr e) h0
    rw [rowAt_some h1 h2] at h
    have hlt : p < l.length := by omega
    obtain ⟨⟨f, N, ys⟩, hr⟩ : ∃ t, row l ((p + 1 : Nat) : Int) (m == 45) = t := ⟨_, rfl⟩
    rw [hr] at h
    simp only [Prod.mk.injEq] at h
    obtain ⟨rfl, rfl, rfl⟩ := h
    obtain ⟨e1, e2, e3⟩ := row_read hlt hr
    refine ⟨?_, e3⟩
    have hb : l.getD p 0 = mb := UInt8.toNat_inj.1 (by unfold byteAt at h2; omega)
    rw [drop_getD l p hlt, hb, e1, rowText_some (fun e => e2 (List.eq_nil_of_length_eq_zero e))]; rfl
theorem goodFrom_bound {pre : Bool} : ∀ (xs : List (List UInt8)) (i : Nat), goodFrom pre xs i = true → (xs ≠ [] → xs.length + i ≤ 16) ∧ ∀ x ∈ xs, x.length ≤ 255
  | [], _, _ => ⟨fun h => absurd rfl h, by simp⟩
  | x :: r, i, h => by
    rw [goodFrom, Bool.and_eq_true, Bool.and_eq_true, beq_iff_eq, beq_iff_eq] at h
    have hf := fault_pos h.1.1
    have ih := goodFrom_bound r (i + 1) h.2
    refine ⟨fun _ => ?_, fun y hy => ?_⟩
    · by_cases hr : r = []
      · subst hr; simp; omega
      · have := ih.1 hr
        rw [List.length_cons]; omega
    · rcases List.mem_cons.1 hy with rfl | hy
      · exact hf.2.1
      · exact ih.2 y hy

end Go.Proofs.YtgfbflnhjpbceaaGreatDoor.Semver

namespace Go.Proofs.YtgfbflnhjpbceaaGreatDoor.Range
open Num Ident Semver

/-- A version that is read is right, and its text is what was read. -/
theorem vparse_read {l : List UInt8} {q : Nat} {v : Ver} (h : vparse l 0 = (0, q, v)) : goodV v = true ∧ l = vtext v ++ l.drop q := by
  unfold vparse at h
  rw [if_neg (by omega), Int.toNat_zero] at h
  unfold inside at h
  by_cases h2 : (core l 0).1 ≠ 0
  · rw [if_pos h2] at h; injection h with h; exact absurd h h2
  · rw [if_neg h2] at h
    have hce := core_end l 0 (Nat.zero_le _)
    obtain ⟨⟨f, q1, x, y, z⟩, hk⟩ : ∃ t, core l 0 = t := ⟨_, rfl⟩
    rw [hk] at h2 h hce
    simp only at h2 h hce
    have h2' : f = 0 := by simpa using h2
    subst h2'
    obtain ⟨c1, c2, c3, c4⟩ := core_read (Nat.zero_le _) hk
    unfold tail1 at h
    by_cases h3 : (Semver.rowAt l q1 45).1 ≠ 0
    · rw [if_pos h3] at h; injection h with h; exact absurd h h3
    · rw [if_neg h3] at h
      have hre := rowAt_end l q1 45 hce
      obtain ⟨⟨f, q2, xs⟩, hr⟩ : ∃ t, Semver.rowAt l q1 45 = t := ⟨_, rfl⟩
      rw [hr] at h3 h hre
      simp only at h3 h hre
      have h3' : f = 0 := by simpa using h3
      subst h3'
      obtain ⟨r1, r2⟩ := rowAt_read (mb := 45) rfl hce hr
      unfold tail2 at h
      by_cases h4 : (Semver.rowAt l q2 43).1 ≠ 0
      · rw [if_pos h4] at h; injection h with h; exact absurd h h4
      · rw [if_neg h4] at h
        obtain ⟨⟨f, q3, ys⟩, hr3⟩ : ∃ t, Semver.rowAt l q2 43 = t := ⟨_, rfl⟩
        rw [hr3] at h4 h
        simp only at h4 h
        have h4' : f = 0 := by simpa using h4
        subst h4'
        obtain ⟨s1, s2⟩ := rowAt_read (mb := 43) rfl hre hr3
        injection h with _ h
        injection h with hq hv
        subst hq; subst hv
        refine ⟨?_, ?_⟩
        · unfold goodV
          rw [heldB_yes c2 c3 c4]
          have r2' : goodFrom true xs 0 = true := r2
          have s2' : goodFrom false ys 0 = true := s2
          simp [r2', s2']
        · have e : l = Lib.decDigits x ++ 46 :: (Lib.decDigits y ++ 46 :: (Lib.decDigits z ++ (rowText 45 xs ++ (rowText 43 ys ++ l.drop q3)))) := by
            rw [← s1, ← r1, ← c1]; rfl
          generalize l.drop q3 = t at e ⊢
          rw [e]
          unfold vtext
          simp

theorem fits_many {kind : Int} (h : kind = 9 ∨ kind = 10) {n : Nat} (hn : 2 ≤ n) : fits kind noVer n = true := by
  have h1 : ofVersion kind = false := by unfold ofVersion; rcases h with rfl | rfl <;> decide
  have h2 : kind ≠ 0 := by omega
  unfold fits
  rw [h1, sameV_self, if_neg (by simp), if_neg (by simp), if_neg h2, if_pos h, decide_eq_true hn]
theorem opFrom_kind (s : List UInt8) : (opOf s).1 = 1 ∧ (opOf s).2 = [62, 61] ∨ (opOf s).1 = 2 ∧ (opOf s).2 = [62] ∨ (opOf s).1 = 3 ∧ (opOf s).2 = [60, 61] ∨ (opOf s).1 = 4 ∧ (opOf s).2 = [60] ∨ (opOf s).1 = 5 ∧ (opOf s).2 = [61] ∨ (opOf s).1 = 6 ∧ (opOf s).2 = [33, 61] ∨ (opOf s).1 = 7 ∧ (opOf s).2 = [94] ∨ (opOf s).1 = 8 ∧ (opOf s).2 = [126] ∨ (opOf s).1 = 5 ∧ (opOf s).2 = [] := by
  unfold opOf ops opFrom
  split
  · simp
  · unfold opFrom; split
    · simp
    · unfold opFrom; split
      · simp
      · unfold opFrom; split
        · simp
        · unfold opFrom; split
          · simp
          · unfold opFrom; split
            · simp
            · unfold opFrom; split
              · simp
              · unfold opFrom; split
                · simp
                · unfold opFrom; simp
theorem zero_good {d : Nat} (hd : d ≤ 64) : goodR noRng (d + opens 9 noRng.kind) = true := by
  show goodR (.mk 0 noVer []) (d + opens 9 0) = true
  rw [goodR_eq, decide_eq_true (show d + opens 9 0 ≤ 64 from hd)]; rfl

end Go.Proofs.YtgfbflnhjpbceaaGreatDoor.Range

namespace Go.Proofs.YtgfbflnhjpbceaaGreatDoor.Range
open Go.RowKit Num Ident Semver
mutual
/-- How many ranges. -/
def wt : Rng → Nat
  | .mk _ _ l => 1 + wtL l
def wtL : List Rng → Nat
  | [] => 0
  | r :: rs => wt r + wtL rs
end
theorem wt_eq (r : Rng) : wt r = 1 + wtL r.subs := by cases r; rfl
theorem wtL_cons (r : Rng) (rs : List Rng) : wtL (r :: rs) = wt r + wtL rs := rfl
theorem wtL_drop (l : List Rng) (i : Nat) (h : i < l.length) : wtL (l.drop i) = 1 + wtL (l.getD i noRng).subs + wtL (l.drop (i + 1)) := by
  rw [List.drop_eq_getElem_cons h, wtL_cons, wt_eq]
  simp [List.getD, List.getElem?_eq_getElem h]
theorem least {p : Nat → Prop} (h : ∃ n, p n) : ∃ m, p m ∧ ∀ k, p k → m ≤ k := by
  obtain ⟨n, hn⟩ := h
  induction n using Nat.strongRecOn with
  | _ n ih =>
    by_cases hk : ∃ k, k < n ∧ p k
    · obtain ⟨k, hlt, hp⟩ := hk; exact ih k hlt hp
    · exact ⟨n, hn, fun k hp => Nat.le_of_not_lt fun hlt => hk ⟨k, hlt, hp⟩⟩
open Classical in
noncomputable def leastOf (p : Nat → Prop) : Nat := if h : ∃ n, p n then Classical.choose (least h) else 0
theorem leastOf_at {p : Nat → Prop} (h : ∃ n, p n) : p (leastOf p) := by unfold leastOf; rw [dif_pos h]; exact (Classical.choose_spec (least h)).1
theorem leastOf_le {p : Nat → Prop} {k : Nat} (h : p k) : leastOf p ≤ k := by unfold leastOf; rw [dif_pos ⟨k, h⟩]; exact (Classical.choose_spec (least ⟨k, h⟩)).2 k h
/-- A goto back, each pass of a datum that weighs less. -/
theorem wp_scope_back_of {P : Program} {a : Act} {w : World} {Q : Exit → Act → World → Prop} {c rest : Code} (l : Nat) (J : Nat → Act → World → Prop) (hf : findLabel c l = some (Code.skip.seq rest))
    (pass : ∀ m a w, J m a w → rest.wp P (Exit.jump l (fun a' w' => ∃ k, J k a' w' ∧ k < m) Q) a w)
    (first : Hid (∀ m a w, J m a w → rest.wp P (Exit.jump l (fun a' w' => ∃ k, J k a' w') Q) a w) → c.wp P (Exit.jump l (fun a' w' => ∃ k, J k a' w') Q) a w) : (Code.scope c).wp P Q a w := by
  refine wp_scope_back l (fun a w => ∃ k, J k a w) (fun a w => leastOf fun k => J k a w) hf (fun a w h => ?_) (fun H => first fun m a w h => H.out a w ⟨m, h⟩)
  refine wp_mono (pass _ a w (leastOf_at h)) fun e _ _ hq => ?_
  cases e <;> first
    | exact hq
    | (obtain ⟨he, k, hk, hlt⟩ := hq; exact ⟨he, ⟨k, hk⟩, Nat.lt_of_le_of_lt (leastOf_le hk) hlt⟩)
end Go.Proofs.YtgfbflnhjpbceaaGreatDoor.Range

namespace Go.Proofs.YtgfbflnhjpbceaaGreatDoor.Range
open Num Ident Semver

theorem sameV_eq {u v : Ver} (h : sameV u v = true) : u = v := by
  unfold sameV at h
  rw [Bool.and_eq_true, Bool.and_eq_true, decide_eq_true_eq, sameB_iff, sameB_iff] at h
  obtain ⟨a, b, c, p, q⟩ := u
  obtain ⟨a', b', c', p', q'⟩ := v
  obtain ⟨⟨h1, h2, h3⟩, h4, h5⟩ := h
  simp only at h1 h2 h3 h4 h5
  rw [h1, h2, h3, h4, h5]
/-- What is right, kind by kind. -/
theorem good_cases {kind : Int} {v : Ver} {l : List Rng} {d : Nat} (h : goodR (.mk kind v l) d = true) :
    d ≤ 64 ∧ goodL kind l d = true ∧ ((1 ≤ kind ∧ kind ≤ 8 ∧ goodV v = true ∧ l = []) ∨ (v = noVer ∧ ((kind = 0 ∧ l = []) ∨ ((kind = 9 ∨ kind = 10) ∧ 2 ≤ l.length) ∨ (kind = 11 ∧ ∃ x, l = [x])))) := by
  rw [goodR_eq, Bool.and_eq_true, Bool.and_eq_true, decide_eq_true_eq] at h
  refine ⟨h.1.1, h.2, ?_⟩
  have hf := h.1.2
  unfold fits at hf
  by_cases h1 : ofVersion kind = true
  · rw [if_pos h1, Bool.and_eq_true, decide_eq_true_eq] at hf
    unfold ofVersion at h1
    rw [decide_eq_true_eq] at h1
    exact .inl ⟨h1.1, h1.2, hf.1, List.eq_nil_of_length_eq_zero hf.2⟩
  · rw [if_neg h1] at hf
    by_cases h2 : sameV v noVer = false
    · rw [if_pos h2] at hf; cases hf
    · rw [if_neg h2] at hf
      refine .inr ⟨sameV_eq (by simpa using h2), ?_⟩
      by_cases h3 : kind = 0
      · rw [if_pos h3, decide_eq_true_eq] at hf; exact .inl ⟨h3, List.eq_nil_of_length_eq_zero hf⟩
      · rw [if_neg h3] at hf
        by_cases h4 : kind = 9 ∨ kind = 10
        · rw [if_pos h4, decide_eq_true_eq] at hf; exact .inr (.inl ⟨h4, hf⟩)
        · rw [if_neg h4] at hf
          by_cases h5 : kind = 11
          · rw [if_pos h5, decide_eq_true_eq] at hf
            exact .inr (.inr ⟨h5, List.length_eq_one_iff.1 hf⟩)
          · rw [if_neg h5] at hf; cases hf
theorem size_mem {x : Rng} {kind : Int} {v : Ver} {l : List Rng} (h : x ∈ l) : SizeOf.sizeOf x < SizeOf.sizeOf (Rng.mk kind v l) := by
  have := List.sizeOf_lt_of_mem h
  rw [Rng.mk.sizeOf_spec]; omega
theorem goodL_mem {o : Int} {x : Rng} : ∀ {l : List Rng} {d : Nat}, goodL o l d = true → x ∈ l → goodR x (d + opens o x.kind) = true
  | [], _, _, h => by cases h
  | r :: rs, d, hg, h => by
    rw [goodL_cons, Bool.and_eq_true] at hg
    rcases List.mem_cons.1 h with rfl | h
    · exact hg.1
    · exact goodL_mem hg.2 h

/-- What the three readers make of a range's text. -/
structure Reads (r : Rng) (k : Nat) (rest : List UInt8) : Prop where
  one : r.kind ≠ 9 → r.kind ≠ 10 → pone k (textR r ++ rest) = (0, blanks rest, r)
  every : r.kind ≠ 10 → furO (blanks rest) = none → everyF (pone k) (textR r ++ rest) = (0, blanks rest, r)
  expr : furO (blanks rest) = none → furE (blanks rest) = none → exprF (pone k) (textR r ++ rest) = (0, blanks rest, r)
end Go.Proofs.YtgfbflnhjpbceaaGreatDoor.Range

namespace Go.Proofs.YtgfbflnhjpbceaaGreatDoor.Prec
open Go.RowKit Num Ident Semver

/-- A way of comparing that is an order of what is like in it. -/
structure Ordr {T : Type} (f : T → T → Int) : Prop where
  flip : ∀ x y, f y x = 0 - f x y
  trans : ∀ x y z, f x y ≤ 0 → f y z ≤ 0 → f x z ≤ 0
theorem Ordr.self {T : Type} {f : T → T → Int} (h : Ordr f) (x : T) : f x x = 0 := by have := h.flip x x; omega
/-- By the one, and of those that are like in it by the other. -/
def lex {T : Type} (f g : T → T → Int) (x y : T) : Int := if f x y = 0 then g x y else f x y
theorem lex_no {T : Type} {f g : T → T → Int} {x y : T} (h : f x y ≠ 0) : lex f g x y = f x y := by unfold lex; rw [if_neg h]
theorem lex_yes {T : Type} {f g : T → T → Int} {x y : T} (h : f x y = 0) : lex f g x y = g x y := by unfold lex; rw [if_pos h]
theorem Ordr.lex {T : Type} {f g : T → T → Int} (hf : Ordr f) (hg : Ordr g) : Ordr (lex f g) := by
  refine ⟨fun x y => ?_, fun x y z h1 h2 => ?_⟩
  · have e := hf.flip x y
    by_cases h : f x y = 0
    · rw [lex_yes h, lex_yes (by omega)]; exact hg.flip x y
    · rw [lex_no h, lex_no (by omega)]; exact e
  · have a1 : f x y ≤ 0 := by
      by_cases h : f x y = 0
      · omega
      · rw [lex_no h] at h1; exact h1
    have a2 : f y z ≤ 0 := by
      by_cases h : f y z = 0
      · omega
      · rw [lex_no h] at h2; exact h2
    have a3 := hf.trans x y z a1 a2
    by_cases h : f x z = 0
    · have e1 := hf.flip x z
      have e2 := hf.flip x y
      have e3 := hf.flip y z
      have b1 := hf.trans z x y (by omega) a1
      have b2 := hf.trans y z x a2 (by omega)
      rw [lex_yes h]
      rw [lex_yes (show f x y = 0 by omega)] at h1
      rw [lex_yes (show f y z = 0 by omega)] at h2
      exact hg.trans x y z h1 h2
    · rw [lex_no h]; exact a3
theorem Ordr.on {T U : Type} {f : T → T → Int} (h : Ordr f) (k : U → T) : Ordr fun x y => f (k x) (k y) := ⟨fun _ _ => h.flip _ _, fun _ _ _ => h.trans _ _ _⟩

theorem ordN_ordr : Ordr ordN := by
  refine ⟨fun x y => ordN_flip x y, fun x y z h1 h2 => ?_⟩
  rcases ordN_cases x y with ⟨a, b⟩ | ⟨a, b⟩ | ⟨a, b⟩ <;> rcases ordN_cases y z with ⟨c, d⟩ | ⟨c, d⟩ | ⟨c, d⟩ <;> rcases ordN_cases x z with ⟨e, f⟩ | ⟨e, f⟩ | ⟨e, f⟩ <;> omega
theorem bytes_flip : ∀ a b : List UInt8, Lib.compareBytes b a = 0 - Lib.compareBytes a b
  | [], [] => rfl
  | [], _ :: _ => rfl
  | _ :: _, [] => rfl
  | x :: a, y :: b => by
    unfold Lib.compareBytes
    simp only [UInt8.lt_iff_toNat_lt]
    by_cases h1 : x.toNat < y.toNat
    · rw [if_pos h1, if_neg (show ¬ y.toNat < x.toNat by omega), if_pos h1]; rfl
    · by_cases h2 : y.toNat < x.toNat
      · rw [if_pos h2, if_neg h1, if_pos h2]; rfl
      · rw [if_neg h2, if_neg h1, if_neg h1, if_neg h2]; exact bytes_flip a b
theorem cmpId_flip (a b : List UInt8) : cmpId b a = 0 - cmpId a b := by
  unfold cmpId
  by_cases ha : numeric a = true
  · by_cases hb : numeric b = true
    · have e1 := ordN_flip (val a) (val b)
      have e2 := ordN_flip a.length b.length
      simp only [if_pos ha, if_pos hb]
      by_cases h : ordN (val a) (val b) = 0
      · rw [if_pos h, if_pos (by omega)]; exact e2
      · rw [if_neg h, if_neg (by omega)]; exact e1
    · simp only [if_pos ha, if_neg hb]; rfl
  · by_cases hb : numeric b = true
    · simp only [if_neg ha, if_pos hb]; rfl
    · simp only [if_neg ha, if_neg hb]; exact bytes_flip a b

theorem rows_flip : ∀ r s : List (List UInt8), cmpRows s r = 0 - cmpRows r s
  | [], s => by rw [cmpRows_nil, cmpRows_nil']; exact ordN_flip 0 s.length
  | a :: r, [] => by rw [cmpRows_nil, cmpRows_nil']; exact ordN_flip _ 0
  | a :: r, b :: s => by
    have e := cmpId_flip a b
    by_cases h : cmpId a b = 0
    · rw [cmpRows_same h, cmpRows_same (by omega)]; exact rows_flip r s
    · rw [cmpRows_diff h, cmpRows_diff (by omega)]; exact e
theorem rows_nil_le (s : List (List UInt8)) : cmpRows [] s ≤ 0 := by
  rw [cmpRows_nil]; rcases ordN_cases 0 s.length with h | h | h <;> omega
theorem rows_trans : ∀ r s t : List (List UInt8), cmpRows r s ≤ 0 → cmpRows s t ≤ 0 → cmpRows r t ≤ 0
  | [], _, t, _, _ => rows_nil_le t
  | a :: r, [], _, h, _ => by
    rw [cmpRows_nil'] at h
    rcases ordN_cases (a :: r).length 0 with h2 | h2 | h2
    · exact absurd h2.1 (by simp)
    · exact absurd h2.1 (by simp)
    · omega
  | a :: r, b :: s, [], _, h => by
    rw [cmpRows_nil'] at h
    rcases ordN_cases (b :: s).length 0 with h2 | h2 | h2
    · exact absurd h2.1 (by simp)
    · exact absurd h2.1 (by simp)
    · omega
  | a :: r, b :: s, c :: t, h1, h2 => by
    have a1 : cmpId a b ≤ 0 := by
      by_cases h : cmpId a b = 0
      · omega
      · rw [cmpRows_diff h] at h1; exact h1
    have a2 : cmpId b c ≤ 0 := by
      by_cases h : cmpId b c = 0
      · omega
      · rw [cmpRows_diff h] at h2; exact h2
    have a3 := cmpId_trans a b c a1 a2
    by_cases h : cmpId a c = 0
    · have e1 := cmpId_flip a c
      have e2 := cmpId_flip a b
      have e3 := cmpId_flip b c
      have b1 := cmpId_trans c a b (by omega) a1
      have b2 := cmpId_trans b c a a2 (by omega)
      rw [cmpRows_same h]
      rw [cmpRows_same (show cmpId a b = 0 by omega)] at h1
      rw [cmpRows_same (show cmpId b c = 0 by omega)] at h2
      exact rows_trans r s t h1 h2
    · rw [cmpRows_diff h]; exact a3
theorem rows_ordr : Ordr cmpRows := ⟨rows_flip, rows_trans⟩

/-- 1 of a row without a text, 0 of another. -/
def noneN (x : List (List UInt8)) : Nat := if x.length = 0 then 1 else 0
/-- How rows ahead of release stand: one without a text behind. -/
def cmpPre : List (List UInt8) → List (List UInt8) → Int := lex (fun x y => ordN (noneN x) (noneN y)) cmpRows
theorem cmpPre_one {x y : List (List UInt8)} (h1 : x.length = 0) (h2 : y.length ≠ 0) : cmpPre x y = 1 := by
  have e : ordN (noneN x) (noneN y) = 1 := by unfold noneN; rw [if_pos h1, if_neg h2]; rfl
  unfold cmpPre; rw [lex_no (by rw [e]; omega)]; exact e
theorem cmpPre_two {x y : List (List UInt8)} (h1 : x.length ≠ 0) (h2 : y.length = 0) : cmpPre x y = -1 := by
  have e : ordN (noneN x) (noneN y) = -1 := by unfold noneN; rw [if_neg h1, if_pos h2]; rfl
  unfold cmpPre; rw [lex_no (by rw [e]; omega)]; exact e
theorem cmpPre_rows {x y : List (List UInt8)} (h : x.length = 0 ↔ y.length = 0) : cmpPre x y = cmpRows x y := by
  have e : ordN (noneN x) (noneN y) = 0 := by
    unfold noneN
    by_cases h1 : x.length = 0
    · rw [if_pos h1, if_pos (h.1 h1)]; rfl
    · rw [if_neg h1, if_neg (fun h2 => h1 (h.2 h2))]; rfl
  unfold cmpPre; exact lex_yes e
/-- How versions' numbers stand. -/
def cmpCore : Ver → Ver → Int := lex (fun u v => ordN u.a v.a) (lex (fun u v => ordN u.b v.b) fun u v => ordN u.c v.c)
theorem ordN_zero_iff (x y : Nat) : ordN x y = 0 ↔ x = y := by rcases ordN_cases x y with h | h | h <;> omega
theorem cmpCore_1 {u v : Ver} (h : u.a ≠ v.a) : cmpCore u v = ordN u.a v.a := by
  unfold cmpCore; exact lex_no (fun e => h ((ordN_zero_iff _ _).1 e))
theorem cmpCore_2 {u v : Ver} (h1 : u.a = v.a) (h : u.b ≠ v.b) : cmpCore u v = ordN u.b v.b := by
  unfold cmpCore; refine (lex_yes (f := fun u v : Ver => ordN u.a v.a) ((ordN_zero_iff _ _).2 h1)).trans ?_; exact lex_no (fun e => h ((ordN_zero_iff _ _).1 e))
theorem cmpCore_3 {u v : Ver} (h1 : u.a = v.a) (h2 : u.b = v.b) : cmpCore u v = ordN u.c v.c := by
  unfold cmpCore; refine (lex_yes (f := fun u v : Ver => ordN u.a v.a) ((ordN_zero_iff _ _).2 h1)).trans ?_; exact lex_yes ((ordN_zero_iff _ _).2 h2)
/-- How versions stand by precedence. -/
def cmpV : Ver → Ver → Int := lex cmpCore fun u v => cmpPre u.pre v.pre
theorem core_ordr : Ordr cmpCore := (ordN_ordr.on Ver.a).lex ((ordN_ordr.on Ver.b).lex (ordN_ordr.on Ver.c))
theorem pre_ordr : Ordr cmpPre := (ordN_ordr.on noneN).lex rows_ordr
theorem cmpV_ordr : Ordr cmpV := core_ordr.lex (pre_ordr.on Ver.pre)

/-- A version without its build. -/
def bare (v : Ver) : Ver := { v with build := [] }

/-- The first of a core. -/
def firstV (x y z : Nat) : Ver := ⟨x, y, z, [[48]], []⟩
/-- The end at a place of three numbers. -/
def endV (x y z i : Nat) : Option Ver :=
  if i = 0 then (if 9223372036854775807 ≤ x then none else some (firstV (x + 1) 0 0))
  else if i = 1 then (if 9223372036854775807 ≤ y then none else some (firstV x (y + 1) 0))
  else if 9223372036854775807 ≤ z then none else some (firstV x y (z + 1))
/-- Where the leftmost number is that isn't 0 (of 0, 0, 0: the last). -/
def placeV (x y : Nat) : Nat := if x ≠ 0 then 0 else if y ≠ 0 then 1 else 2
def caretV (v : Ver) : Option Ver := endV v.a v.b v.c (placeV v.a v.b)
def tildeV (v : Ver) : Option Ver := endV v.a v.b v.c 1
/-- An end as a version. -/
def verOf (o : Option Ver) : Ver := o.getD noVer
theorem end_ahead {v e : Ver} {i : Nat} (h : endV v.a v.b v.c i = some e) : cmpV v e = -1 := by
  have k : cmpCore v e = -1 := by
    unfold endV at h
    split at h
    · split at h
      · cases h
      · cases h
        rw [cmpCore_1 (by show v.a ≠ v.a + 1; omega)]; exact ordN_lt (Nat.lt_succ_self v.a)
    · split at h
      · split at h
        · cases h
        · cases h
          exact (cmpCore_2 (u := v) (v := firstV v.a (v.b + 1) 0) rfl (by show v.b ≠ v.b + 1; omega)).trans (ordN_lt (Nat.lt_succ_self v.b))
      · split at h
        · cases h
        · cases h
          exact (cmpCore_3 (u := v) (v := firstV v.a v.b (v.c + 1)) rfl rfl).trans (ordN_lt (Nat.lt_succ_self v.c))
  unfold cmpV
  rw [lex_no (by rw [k]; omega)]; exact k
end Go.Proofs.YtgfbflnhjpbceaaGreatDoor.Prec

namespace Go.Proofs.YtgfbflnhjpbceaaGreatDoor.Prec
open Go.RowKit

theorem run_eq3 (n0 n1 n2 m0 m1 m2 : Int) (w : World) :
    (Op.equalIn 10000 147 (.agg #[.int .u64 n0, .int .u64 n1, .int .u64 n2]) (.agg #[.int .u64 m0, .int .u64 m1, .int .u64 m2])).run Tryz.prog w = .ok (n0 == m0 && (n1 == m1 && n2 == m2)) w := by
  obtain ⟨i, hi⟩ := Option.isSome_iff_exists.1 (show (Tryz.prog.info? 22).isSome = true by kernel_rfl)
  have hc : Tryz.prog.cellsOf 22 = 1 := by kernel_rfl
  have hp : Tryz.prog.plainKey 22 = true := by kernel_rfl
  have q0 := run_part_plain (P := Tryz.prog) w hp (xs := #[.int .u64 n0, .int .u64 n1, .int .u64 n2]) (off := 0) rfl
  have q1 := run_part_plain (P := Tryz.prog) w hp (xs := #[.int .u64 n0, .int .u64 n1, .int .u64 n2]) (off := 1) rfl
  have q2 := run_part_plain (P := Tryz.prog) w hp (xs := #[.int .u64 n0, .int .u64 n1, .int .u64 n2]) (off := 2) rfl
  have p0 := run_part_plain (P := Tryz.prog) w hp (xs := #[.int .u64 m0, .int .u64 m1, .int .u64 m2]) (off := 0) rfl
  have p1 := run_part_plain (P := Tryz.prog) w hp (xs := #[.int .u64 m0, .int .u64 m1, .int .u64 m2]) (off := 1) rfl
  have p2 := run_part_plain (P := Tryz.prog) w hp (xs := #[.int .u64 m0, .int .u64 m1, .int .u64 m2]) (off := 2) rfl
  have e := fun a b : Int => run_equalIn_int (P := Tryz.prog) w 9998 22 .u64 .u64 a b Tryz.underlying22
  rw [run_equalIn_array w 9999 _ _ Tryz.underlying147 hi, hc, show List.range 3 = [0, 1, 2] from rfl]
  simp only [Op.eqItems, Sem.run_bind, Nat.mul_one, q0, p0, Result.andThen_ok]
  cases h0 : n0 == m0 <;> cases h1 : n1 == m1 <;> cases h2 : n2 == m2 <;> simp [q1, q2, p1, p2, e, h0, h1, h2]
end Go.Proofs.YtgfbflnhjpbceaaGreatDoor.Prec

namespace Go.Proofs.YtgfbflnhjpbceaaGreatDoor.Num
open Go.RowKit

set_option maxRecDepth 100000 in
set_option maxHeartbeats 800000 in
theorem cmp_any (x y : Nat) (w : World) :
    Calls Tryz.prog 80 #[.int .i64 x, .int .i64 y] w fun e w' => e = .returned (.int .i64 (ordN x y)) ∧ w = w' := by
  rcases Nat.lt_trichotomy x y with h | h | h
  · have HF := Lib.hid (ordN_lt h)
    go_enter Tryz.func80, Tryz.ntmps80
    go_wp2
    go_ret
    exact ⟨by rw [HF.out]; rfl, rfl⟩
  · have HF := Lib.hid (ordN_eq h)
    subst h
    go_enter Tryz.func80, Tryz.ntmps80
    go_wp2
    go_ret
    exact ⟨by rw [HF.out]; rfl, rfl⟩
  · have HF := Lib.hid (ordN_gt h)
    go_enter Tryz.func80, Tryz.ntmps80
    go_wp2
    go_ret
    exact ⟨by rw [HF.out]; rfl, rfl⟩

set_option maxRecDepth 100000 in
set_option maxHeartbeats 800000 in
theorem strcmp_any (s t : ByteArray) (w : World) :
    Calls Tryz.prog 180 #[.string s, .string t] w fun e w' => e = .returned (.int .i64 (Lib.compareBytes s.data.toList t.data.toList)) ∧ w = w' := by
  have hx : ∀ W, (callFunc 200 #[.string s, .string t]).run Tryz.prog W = .ok (.value (.int .i64 (Lib.compareBytes s.data.toList t.data.toList))) W := fun W => by
    rw [run_callFunc_extern Tryz.func200 (by kernel_rfl) (by kernel_rfl) (by kernel_rfl) (e := Extern.BytealgCompare.compare) (by kernel_rfl), Lib.run_compareString]
    rfl
  generalize Lib.compareBytes s.data.toList t.data.toList = r at hx ⊢
  go_enter Tryz.func180, Tryz.ntmps180
  go_wp2
  go_ret
  exact ⟨rfl, rfl⟩

set_option maxRecDepth 100000 in
set_option maxHeartbeats 800000 in
theorem compare_anyD (s t : ByteArray) (w : World) (hs : s.size ≤ maxLen) (ht : t.size ≤ maxLen) :
    Calls Tryz.prog 189 #[.string s, .string t] w fun e w' => e = .returned (.int .i64 (cmpNum s.data.toList t.data.toList)) ∧ BelowD w.heap.size w w' := by
  have hs' := hs
  have ht' := ht
  unfold maxLen at hs' ht'
  have HS := Lib.hid hs
  have HT := Lib.hid ht
  clear hs ht
  have LS := Lib.hid (Lib.size_eq s)
  have LT := Lib.hid (Lib.size_eq t)
  cases ha : isNum s.data.toList
  · have HF := Lib.hid (cmpNum_no (b := t.data.toList) (.inl ha))
    have HA := Lib.hid ha; clear ha
    go_enter Tryz.func189, Tryz.ntmps189
    go_wp2_with fail
    refine (is_anyD s _ HS.out).mono ?_
    rintro e w1 ⟨rfl, hb1⟩
    rw [HA.out]
    go_wp2
    go_ret
    exact ⟨by rw [HF.out]; rfl, hb1⟩
  · cases hb : isNum t.data.toList
    · have HF := Lib.hid (cmpNum_no (a := s.data.toList) (.inr hb))
      have HA := Lib.hid ha; clear ha
      have HB := Lib.hid hb; clear hb
      go_enter Tryz.func189, Tryz.ntmps189
      go_wp2_with fail
      refine (is_anyD s _ HS.out).mono ?_
      rintro e w1 ⟨rfl, hb1⟩
      rw [HA.out]
      go_wp2_with fail
      refine (is_anyD t _ HT.out).mono ?_
      rintro e w2 ⟨rfl, hb2⟩
      rw [HB.out]
      have hz1 := hb1.size
      go_wp2
      go_ret
      exact ⟨by rw [HF.out]; rfl, hb1.trans (hb2.mono hz1)⟩
    · have HF := Lib.hid (cmpNum_yes ha hb)
      have HG := Lib.hid (fun h => ordN_lt (shorter ha hb h))
      have HG2 := Lib.hid (fun h => ordN_gt (shorter hb ha h))
      have HG3 := Lib.hid (fun h => alike_val ha hb h)
      have HA := Lib.hid ha; clear ha
      have HB := Lib.hid hb; clear hb
      go_enter Tryz.func189, Tryz.ntmps189
      go_wp2_with fail
      refine (is_anyD s _ HS.out).mono ?_
      rintro e w1 ⟨rfl, hb1⟩
      rw [HA.out]
      go_wp2_with fail
      refine (is_anyD t _ HT.out).mono ?_
      rintro e w2 ⟨rfl, hb2⟩
      rw [HB.out]
      have hz1 := hb1.size
      have HBB := Lib.hid (hb1.trans (hb2.mono hz1))
      go_wp2_with fail
      refine (cmp_any _ _ _).mono ?_
      rintro e w' ⟨rfl, rfl⟩
      rcases Nat.lt_trichotomy s.size t.size with h | h | h
      · rw [ordN_lt h]
        go_wp2
        go_ret
        exact ⟨by rw [HF.out, HG.out (by rw [← LS.out, ← LT.out]; exact h)]; rfl, HBB.out⟩
      · rw [ordN_eq h]
        have H := Lib.hid h; clear h
        go_wp2_with fail
        refine (strcmp_any _ _ _).mono ?_
        rintro e w' ⟨rfl, rfl⟩
        go_wp2
        go_ret
        exact ⟨by rw [HF.out, ← HG3.out (by rw [← LS.out, ← LT.out]; exact H.out)]; rfl, HBB.out⟩
      · rw [ordN_gt h]
        go_wp2
        go_ret
        exact ⟨by rw [HF.out, HG2.out (by rw [← LS.out, ← LT.out]; exact h)]; rfl, HBB.out⟩
end Go.Proofs.YtgfbflnhjpbceaaGreatDoor.Num

namespace Go.Proofs.YtgfbflnhjpbceaaGreatDoor.Ident
open Go.RowKit Num

theorem trim_le (l : List UInt8) : (Lib.trimLeftB l 48).length ≤ l.length := (List.dropWhile_sublist _).length_le

set_option maxRecDepth 100000 in
set_option maxHeartbeats 800000 in
theorem numeral_any (s : ByteArray) (w : World) :
    Calls Tryz.prog 190 #[.string s] w fun e w' => e = .returned (.string (mk (numeral s.data.toList))) ∧ w = w' := by
  obtain ⟨t, ht⟩ : ∃ t : ByteArray, (⟨(Lib.trimLeftB s.data.toList 48).toArray⟩ : ByteArray) = t := ⟨_, rfl⟩
  have HT := Lib.hid ht
  have hz : t.size = (Lib.trimLeftB s.data.toList 48).length := by rw [← ht]; rfl
  have HK : Hid (∀ W, Calls Tryz.prog 199 #[.string s, .string ⟨#[48]⟩] W fun e w' => e = .returned (.string t) ∧ w' = W) := fun W => by
    have := Tryz.strings_TrimLeft_one s 48 (by decide) W
    rw [ht] at this
    exact this
  clear ht
  by_cases h0 : t.size = 0
  · have HF : Hid (numeral s.data.toList = [48]) := by unfold Hid numeral; rw [if_pos (by rw [← hz]; exact h0)]
    have hem := (empty_iff t).2 h0
    clear h0 hz
    go_enter Tryz.func190, Tryz.ntmps190
    go_wp2_with fail
    refine (HK.out _).mono ?_
    rintro e w' ⟨rfl, rfl⟩
    go_wp2
    go_ret
    exact ⟨by rw [HF.out]; rfl, rfl⟩
  · have HF : Hid (numeral s.data.toList = Lib.trimLeftB s.data.toList 48) := by unfold Hid numeral; rw [if_neg (by rw [← hz]; exact h0)]
    have hem := (empty_no t).2 h0
    clear h0 hz
    go_enter Tryz.func190, Tryz.ntmps190
    go_wp2_with fail
    refine (HK.out _).mono ?_
    rintro e w' ⟨rfl, rfl⟩
    go_wp2
    go_ret
    exact ⟨by rw [HF.out, ← HT.out]; rfl, rfl⟩

theorem numeral_le (l : List UInt8) (h : 0 < l.length) : (numeral l).length ≤ l.length := by
  unfold numeral
  split
  · simp; omega
  · exact trim_le l

set_option maxRecDepth 100000 in
set_option maxHeartbeats 800000 in
theorem numbers_anyD (s t : ByteArray) (w : World) (hs : s.size ≤ maxLen) (ht : t.size ≤ maxLen) (ha : numeric s.data.toList = true) (hb : numeric t.data.toList = true) :
    Calls Tryz.prog 179 #[.string s, .string t] w fun e w' => e = .returned (.int .i64 (cmpId s.data.toList t.data.toList)) ∧ BelowD w.heap.size w w' := by
  have HF : Hid (cmpId s.data.toList t.data.toList = if ordN (val s.data.toList) (val t.data.toList) = 0 then ordN s.data.toList.length t.data.toList.length else ordN (val s.data.toList) (val t.data.toList)) := by
    unfold Hid cmpId; rw [if_pos ha, if_pos hb]
  have HL := Lib.hid (Lib.size_eq s)
  have HM := Lib.hid (Lib.size_eq t)
  rw [numeric_iff] at ha hb
  have z1 : (mk (numeral s.data.toList)).size ≤ maxLen := by have := numeral_le _ ha.1; rw [mk_size]; rw [HL.out] at hs; omega
  have z2 : (mk (numeral t.data.toList)).size ≤ maxLen := by have := numeral_le _ hb.1; rw [mk_size]; rw [HM.out] at ht; omega
  have HC : Hid (∀ W, Calls Tryz.prog 189 #[.string (mk (numeral s.data.toList)), .string (mk (numeral t.data.toList))] W fun e w' => e = .returned (.int .i64 (ordN (val s.data.toList) (val t.data.toList))) ∧ BelowD W.heap.size W w') := fun W => by
    have := Num.compare_anyD (mk (numeral s.data.toList)) (mk (numeral t.data.toList)) W z1 z2
    rw [mk_list, mk_list, cmpNum_yes (numeral_num (all_of_run ha.2)) (numeral_num (all_of_run hb.2)), numeral_val, numeral_val] at this
    exact this
  clear z1 z2 ha hb
  unfold maxLen at hs ht
  generalize val s.data.toList = x at HC HF
  generalize val t.data.toList = y at HC HF
  rw [← HL.out, ← HM.out] at HF
  rcases ordN_cases x y with ⟨_, e⟩ | ⟨_, e⟩ | ⟨_, e⟩
  · rw [e] at HC HF
    have HF2 : Hid (cmpId s.data.toList t.data.toList = -1) := by have := HF.out; rwa [if_neg (by omega)] at this
    clear e HF
    go_enter Tryz.func179, Tryz.ntmps179
    go_wp2_with fail
    refine (numeral_any s _).mono ?_
    rintro e w' ⟨rfl, rfl⟩
    go_wp2_with fail
    refine (numeral_any t _).mono ?_
    rintro e w' ⟨rfl, rfl⟩
    go_wp2_with fail
    refine (HC.out _).mono ?_
    rintro e w1 ⟨rfl, hb1⟩
    go_wp2
    go_ret
    exact ⟨by rw [HF2.out]; rfl, hb1⟩
  · rw [e] at HC HF
    have HF2 : Hid (cmpId s.data.toList t.data.toList = ordN s.size t.size) := by have := HF.out; rwa [if_pos rfl] at this
    clear e HF
    go_enter Tryz.func179, Tryz.ntmps179
    go_wp2_with fail
    refine (numeral_any s _).mono ?_
    rintro e w' ⟨rfl, rfl⟩
    go_wp2_with fail
    refine (numeral_any t _).mono ?_
    rintro e w' ⟨rfl, rfl⟩
    go_wp2_with fail
    refine (HC.out _).mono ?_
    rintro e w1 ⟨rfl, hb1⟩
    go_wp2_with fail
    refine (cmp_any _ _ _).mono ?_
    rintro e w' ⟨rfl, rfl⟩
    go_wp2
    go_ret
    exact ⟨by rw [HF2.out]; rfl, hb1⟩
  · rw [e] at HC HF
    have HF2 : Hid (cmpId s.data.toList t.data.toList = 1) := by have := HF.out; rwa [if_neg (by omega)] at this
    clear e HF
    go_enter Tryz.func179, Tryz.ntmps179
    go_wp2_with fail
    refine (numeral_any s _).mono ?_
    rintro e w' ⟨rfl, rfl⟩
    go_wp2_with fail
    refine (numeral_any t _).mono ?_
    rintro e w' ⟨rfl, rfl⟩
    go_wp2_with fail
    refine (HC.out _).mono ?_
    rintro e w1 ⟨rfl, hb1⟩
    go_wp2
    go_ret
    exact ⟨by rw [HF2.out]; rfl, hb1⟩

theorem cmpId_left {a b : List UInt8} (ha : numeric a = true) (hb : numeric b = false) : cmpId a b = -1 := by
  unfold cmpId; rw [if_pos ha, if_neg (by simp [hb])]
theorem cmpId_right {a b : List UInt8} (ha : numeric a = false) (hb : numeric b = true) : cmpId a b = 1 := by
  unfold cmpId; rw [if_neg (by simp [ha]), if_pos hb]
theorem cmpId_none {a b : List UInt8} (ha : numeric a = false) (hb : numeric b = false) : cmpId a b = Lib.compareBytes a b := by
  unfold cmpId; rw [if_neg (by simp [ha]), if_neg (by simp [hb])]

set_option maxRecDepth 100000 in
set_option maxHeartbeats 800000 in
theorem idcmp_anyD (s t : ByteArray) (w : World) (hs : s.size ≤ maxLen) (ht : t.size ≤ maxLen) :
    Calls Tryz.prog 167 #[.string s, .string t] w fun e w' => e = .returned (.int .i64 (cmpId s.data.toList t.data.toList)) ∧ BelowD w.heap.size w w' := by
  have HS := Lib.hid hs; clear hs
  have HT := Lib.hid ht; clear ht
  cases ha : numeric s.data.toList
  · cases hb : numeric t.data.toList
    · have HF := Lib.hid (cmpId_none ha hb)
      have HA := Lib.hid ha; clear ha
      have HB := Lib.hid hb; clear hb
      go_enter Tryz.func167, Tryz.ntmps167
      go_wp2_with fail
      refine (numeric_any s _ HS.out).mono ?_
      rintro e w' ⟨rfl, rfl⟩
      rw [HA.out]
      go_wp2_with fail
      refine (numeric_any t _ HT.out).mono ?_
      rintro e w' ⟨rfl, rfl⟩
      rw [HB.out]
      go_wp2_with fail
      refine (strcmp_any _ _ _).mono ?_
      rintro e w' ⟨rfl, rfl⟩
      go_wp2
      go_ret
      exact ⟨by rw [HF.out]; rfl, BelowD.refl _ _⟩
    · have HF := Lib.hid (cmpId_right ha hb)
      have HA := Lib.hid ha; clear ha
      have HB := Lib.hid hb; clear hb
      go_enter Tryz.func167, Tryz.ntmps167
      go_wp2_with fail
      refine (numeric_any s _ HS.out).mono ?_
      rintro e w' ⟨rfl, rfl⟩
      rw [HA.out]
      go_wp2_with fail
      refine (numeric_any t _ HT.out).mono ?_
      rintro e w' ⟨rfl, rfl⟩
      rw [HB.out]
      go_wp2
      go_ret
      exact ⟨by rw [HF.out]; rfl, BelowD.refl _ _⟩
  · cases hb : numeric t.data.toList
    · have HF := Lib.hid (cmpId_left ha hb)
      have HA := Lib.hid ha; clear ha
      have HB := Lib.hid hb; clear hb
      go_enter Tryz.func167, Tryz.ntmps167
      go_wp2_with fail
      refine (numeric_any s _ HS.out).mono ?_
      rintro e w' ⟨rfl, rfl⟩
      rw [HA.out]
      go_wp2_with fail
      refine (numeric_any t _ HT.out).mono ?_
      rintro e w' ⟨rfl, rfl⟩
      rw [HB.out]
      go_wp2
      go_ret
      exact ⟨by rw [HF.out]; rfl, BelowD.refl _ _⟩
    · have HC := Lib.hid (fun W => numbers_anyD s t W HS.out HT.out ha hb)
      have HA := Lib.hid ha; clear ha
      have HB := Lib.hid hb; clear hb
      go_enter Tryz.func167, Tryz.ntmps167
      go_wp2_with fail
      refine (numeric_any s _ HS.out).mono ?_
      rintro e w' ⟨rfl, rfl⟩
      rw [HA.out]
      go_wp2_with fail
      refine (numeric_any t _ HT.out).mono ?_
      rintro e w' ⟨rfl, rfl⟩
      rw [HB.out]
      go_wp2_with fail
      refine (HC.out _).mono ?_
      rintro e w1 ⟨rfl, hb1⟩
      go_wp2
      go_ret
      exact ⟨rfl, hb1⟩
end Go.Proofs.YtgfbflnhjpbceaaGreatDoor.Ident

namespace Go.Proofs.YtgfbflnhjpbceaaGreatDoor.Ident
open Go.RowKit Num

theorem drop_texts (xs : List (List UInt8)) (k : Nat) (h : k < xs.length) : xs.drop k = xs.getD k [] :: xs.drop (k + 1) := by
  rw [List.drop_eq_getElem_cons h]; simp [List.getD, List.getElem?_eq_getElem h]
theorem getD_mem (xs : List (List UInt8)) (k : Nat) (h : k < xs.length) : xs.getD k [] ∈ xs := by
  simp [List.getD, List.getElem?_eq_getElem h]
theorem ordN_zero {a b : Nat} (h : a ≤ b) : ordN 0 (b - a) = ordN a b := by
  rcases Nat.lt_or_ge a b with h1 | h1
  · rw [ordN_lt h1, ordN_lt (by omega)]
  · rw [ordN_eq (by omega), ordN_eq (by omega)]
theorem ordN_zero' {a b : Nat} (h : b ≤ a) : ordN (a - b) 0 = ordN a b := by
  rcases Nat.lt_or_ge b a with h1 | h1
  · rw [ordN_gt h1, ordN_gt (by omega)]
  · rw [ordN_eq (by omega), ordN_eq (by omega)]
theorem rows_end {xs ys : List (List UInt8)} {k : Nat} (h1 : k ≤ xs.length) (h2 : k ≤ ys.length) (h : k = xs.length ∨ k = ys.length) : cmpRows (xs.drop k) (ys.drop k) = ordN xs.length ys.length := by
  rcases h with h | h
  · subst h
    rw [List.drop_eq_nil_of_le (Nat.le_refl _), cmpRows_nil, List.length_drop]; exact ordN_zero h2
  · subst h
    rw [List.drop_eq_nil_of_le (Nat.le_refl ys.length), cmpRows_nil', List.length_drop]; exact ordN_zero' h1

def RowsJ (w : World) (A : Option Addr) (a ca : Nat) (B : Option Addr) (b cb : Nat) (g : Value) (xs ys : List (List UInt8)) (a' : Act) (w' : World) : Prop :=
  ∃ (k : Nat) (u8 u9 u10 u11 u12 u13 u14 u15 u16 u17 u18 u19 u20 u21 u22 u23 u24 u25 u26 u27 u28 u29 u30 u31 u32 u33 u34 u35 u36 u37 u38 : Value), BelowD w.heap.size w w' ∧ k ≤ a ∧ k ≤ b ∧ cmpRows (xs.drop k) (ys.drop k) = cmpRows xs ys ∧
    a' = { tmps := #[.slice A a ca, .slice B b cb, g, undef, undef, undef, .int .i64 0, .int .i64 k, u8, u9, u10, u11, u12, u13, u14, u15, u16, u17, u18, u19, u20, u21, u22, u23, u24, u25, u26, u27, u28, u29, u30, u31, u32, u33, u34, u35, u36, u37, u38], defers := [] }
def RowsM (n : Nat) (a' : Act) (_ : World) : Nat := n - (intOf (a'.tmps.getD 7 undef)).toNat

set_option maxRecDepth 100000 in
set_option maxHeartbeats 1600000 in
theorem rowsG_anyD (A : Option Addr) (a ca : Nat) (xs : List (List UInt8)) (B : Option Addr) (b cb : Nat) (ys : List (List UInt8)) (w : World) (hA : SRow w A a xs) (hB : SRow w B b ys)
    (ha : a ≤ maxLen) (hb : b ≤ maxLen) (hx : ∀ x ∈ xs, x.length ≤ maxLen) (hy : ∀ y ∈ ys, y.length ≤ maxLen) :
    Calls Tryz.prog 166 #[.slice A a ca, .slice B b cb, .func (.func 167) #[] #[]] w fun e w' => e = .returned (.int .i64 (cmpRows xs ys)) ∧ BelowD w.heap.size w w' := by
  unfold maxLen at ha hb
  have HA := Lib.hid hA
  have HB := Lib.hid hB
  have HX := Lib.hid hx
  have HY := Lib.hid hy
  have HLA := Lib.hid hA.1
  have HLB := Lib.hid hB.1
  clear hA hB hx hy
  go_enter Tryz.func166, Tryz.ntmps166
  go_wp2
  refine wp_scope_back 0 (RowsJ w A a ca B b cb (.func (.func 167) #[] #[]) xs ys) (RowsM a) rfl ?_ ?_
  · rintro a' w1 ⟨k, u8, u9, u10, u11, u12, u13, u14, u15, u16, u17, u18, u19, u20, u21, u22, u23, u24, u25, u26, u27, u28, u29, u30, u31, u32, u33, u34, u35, u36, u37, u38, hb1, hk1, hk2, hgo, rfl⟩
    have HB1 := Lib.hid hb1
    have HG := Lib.hid hgo
    clear hb1 hgo
    have hz1 := HB1.out.size
    have HE : Hid (k = a ∨ k = b → cmpRows xs ys = ordN a b) := fun h => by
      rw [← HG.out, rows_end (by rw [HLA.out]; exact hk1) (by rw [HLB.out]; exact hk2) (by rw [HLA.out, HLB.out]; exact h), HLA.out, HLB.out]
    by_cases h1 : k = a
    · have HE2 := Lib.hid (HE.out (.inl h1))
      have hb1 : ((k : Int) == (a : Int)) = true := by simp [h1]
      clear h1 HE
      go_wp2_with fail
      refine (cmp_any _ _ _).mono ?_
      rintro e w' ⟨rfl, rfl⟩
      go_wp2
      simp only [Exit.jump]
      go_ret
      exact ⟨by rw [HE2.out]; rfl, HB1.out⟩
    by_cases h2 : k = b
    · have HE2 := Lib.hid (HE.out (.inr h2))
      have hb1 : ((k : Int) == (a : Int)) = false := by simp; omega
      have hb2 : ((k : Int) == (b : Int)) = true := by simp [h2]
      clear h1 h2 HE
      go_wp2_with fail
      refine (cmp_any _ _ _).mono ?_
      rintro e w' ⟨rfl, rfl⟩
      go_wp2
      simp only [Exit.jump]
      go_ret
      exact ⟨by rw [HE2.out]; rfl, HB1.out⟩
    have hb1 : ((k : Int) == (a : Int)) = false := by simp; omega
    have hb2 : ((k : Int) == (b : Int)) = false := by simp; omega
    have hka : k < a := by omega
    have hkb : k < b := by omega
    clear h1 h2 HE
    obtain ⟨g1, o1, rfl, hg1, hc1⟩ := (HA.out.kept HB1.out.toBelow).2 (by omega)
    obtain ⟨g2, o2, rfl, hg2, hc2⟩ := (HB.out.kept HB1.out.toBelow).2 (by omega)
    have hx1 := hc1 k hka
    have hx2 := hc2 k hkb
    clear hc1 hc2
    have HZ1 := Lib.hid (HX.out _ (getD_mem xs k (by rw [HLA.out]; exact hka)))
    have HZ2 := Lib.hid (HY.out _ (getD_mem ys k (by rw [HLB.out]; exact hkb)))
    have HD : Hid (cmpRows xs ys = if cmpId (xs.getD k []) (ys.getD k []) = 0 then cmpRows (xs.drop (k + 1)) (ys.drop (k + 1)) else cmpId (xs.getD k []) (ys.getD k [])) := by
      unfold Hid
      rw [← HG.out, drop_texts xs k (by rw [HLA.out]; exact hka), drop_texts ys k (by rw [HLB.out]; exact hkb), cmpRows]
    generalize xs.getD k [] = s at hx1 HZ1 HD
    generalize ys.getD k [] = t at hx2 HZ2 HD
    go_wp2
    go_still_tail 9, (by kernel_rfl)
    change wpList _ _ _ _ _ w1.drew
    have HW := Lib.hid HB1.out.drew
    generalize w1.drew = w2 at HW
    have hz2 := HW.out.size
    obtain ⟨c, hc⟩ : ∃ c, cmpId s t = c := ⟨_, rfl⟩
    rw [hc] at HD
    have HC := Lib.hid hc; clear hc
    go_wp2_with fail
    refine (idcmp_anyD (mk s) (mk t) _ (by rw [mk_size]; exact HZ1.out) (by rw [mk_size]; exact HZ2.out)).mono ?_
    rw [mk_list, mk_list, HC.out]
    rintro e w3 ⟨rfl, hb3⟩
    have HB3 := Lib.hid (HW.out.trans (hb3.mono hz2))
    clear hb3
    by_cases hc0 : c = 0
    · have HD2 : Hid (cmpRows (xs.drop (k + 1)) (ys.drop (k + 1)) = cmpRows xs ys) := by have := HD.out; rw [if_pos hc0] at this; exact this.symm
      subst hc0
      clear HD
      go_wp2
      go_step3
      rw [show ((k : Int) + 1) = ((k + 1 : Nat) : Int) from rfl]
      refine ⟨rfl, ⟨k + 1, _, _, _, _, _, _, _, _, _, _, _, _, _, _, _, _, _, _, _, _, _, _, _, _, _, _, _, _, _, _, _, HB3.out, by omega, by omega, HD2.out, rfl⟩, ?_⟩
      simp [RowsM, intOf]; omega
    · have HD2 : Hid (cmpRows xs ys = c) := by have := HD.out; rw [if_neg hc0] at this; exact this
      have hn : (c == 0) = false := by simp [hc0]
      have hn2 : (c != 0) = true := by simp [hc0]
      clear HD hc0
      go_wp2
      simp only [Exit.jump]
      go_ret
      exact ⟨by rw [HD2.out]; rfl, HB3.out⟩
  · intro HP
    go_wp2
    go_step3
    rename_i hK
    exact hK _ _ (HP.out _ _ ⟨0, _, _, _, _, _, _, _, _, _, _, _, _, _, _, _, _, _, _, _, _, _, _, _, _, _, _, _, _, _, _, _, BelowD.refl _ _, by omega, by omega, rfl, rfl⟩)
set_option maxRecDepth 100000 in
set_option maxHeartbeats 1600000 in
theorem rows_anyD (A : Option Addr) (a ca : Nat) (xs : List (List UInt8)) (B : Option Addr) (b cb : Nat) (ys : List (List UInt8)) (w : World) (hA : SRow w A a xs) (hB : SRow w B b ys)
    (ha : a ≤ maxLen) (hb : b ≤ maxLen) (hx : ∀ x ∈ xs, x.length ≤ maxLen) (hy : ∀ y ∈ ys, y.length ≤ maxLen) :
    Calls Tryz.prog 151 #[.slice A a ca, .slice B b cb] w fun e w' => e = .returned (.int .i64 (cmpRows xs ys)) ∧ BelowD w.heap.size w w' := by
  have HA := Lib.hid hA
  have HB := Lib.hid hB
  have HX := Lib.hid hx
  have HY := Lib.hid hy
  have HM := Lib.hid ha
  have HN := Lib.hid hb
  clear hA hB hx hy ha hb
  go_enter Tryz.func151, Tryz.ntmps151
  go_wp2_with fail
  refine (rowsG_anyD A a ca xs B b cb ys _ HA.out HB.out HM.out HN.out HX.out HY.out).mono ?_
  rintro e w1 ⟨rfl, hb1⟩
  go_wp2
  go_ret
  exact ⟨rfl, hb1⟩
end Go.Proofs.YtgfbflnhjpbceaaGreatDoor.Ident

namespace Go.Proofs.YtgfbflnhjpbceaaGreatDoor.Prec
open Go.RowKit Num Ident Semver

set_option maxRecDepth 100000 in
set_option maxHeartbeats 800000 in
theorem cmpU_any (x y : Nat) (w : World) :
    Calls Tryz.prog 150 #[.int .u64 x, .int .u64 y] w fun e w' => e = .returned (.int .i64 (ordN x y)) ∧ w = w' := by
  rcases Nat.lt_trichotomy x y with h | h | h
  · have HF := Lib.hid (ordN_lt h)
    go_enter Tryz.func150, Tryz.ntmps150
    go_wp2
    go_ret
    exact ⟨by rw [HF.out]; rfl, rfl⟩
  · have HF := Lib.hid (ordN_eq h)
    subst h
    go_enter Tryz.func150, Tryz.ntmps150
    go_wp2
    go_ret
    exact ⟨by rw [HF.out]; rfl, rfl⟩
  · have HF := Lib.hid (ordN_gt h)
    go_enter Tryz.func150, Tryz.ntmps150
    go_wp2
    go_ret
    exact ⟨by rw [HF.out]; rfl, rfl⟩

set_option maxRecDepth 100000 in
set_option maxHeartbeats 800000 in
theorem coreOf_anyD (a b c : Int) (x y : Value) (w : World) :
    Calls Tryz.prog 123 #[.agg #[.int .u64 a, .int .u64 b, .int .u64 c, x, y]] w fun e w' => e = .returned (.agg #[.int .u64 a, .int .u64 b, .int .u64 c]) ∧ BelowD w.heap.size w w' := by
  go_enter Tryz.func123, Tryz.ntmps123
  go_wp2
  exact bodyPost_ret (v := .agg #[.int .u64 a, .int .u64 b, .int .u64 c]) (by simp [results, Tryz.results123, go_sem]) rfl ⟨rfl, ((BelowD.refl _ _).alloc (Nat.le_refl _) _).alloc (by simp) _⟩
theorem coreOf_any (a b c : Int) (x y : Value) (w : World) :
    Calls Tryz.prog 123 #[.agg #[.int .u64 a, .int .u64 b, .int .u64 c, x, y]] w fun e w' => e = .returned (.agg #[.int .u64 a, .int .u64 b, .int .u64 c]) ∧ Below w.heap.size w w' := dropD (coreOf_anyD a b c x y w)

def CoresAt (u v : Ver) (i : Nat) : Prop := i = 0 ∨ (i = 1 ∧ u.a = v.a) ∨ (i = 2 ∧ u.a = v.a ∧ u.b = v.b)
def CoresJ (w : World) (u v : Ver) (a' : Act) (w' : World) : Prop :=
  ∃ (i : Nat) (u6 u7 u8 u9 u10 u11 u12 u13 u14 u15 u16 u17 u18 u19 u20 u21 u22 u23 u24 : Value), BelowD w.heap.size w w' ∧ At3 w' w.heap.size (.int .u64 (u.a : Int)) (.int .u64 (u.b : Int)) (.int .u64 (u.c : Int)) ∧ At3 w' (w.heap.size + 1) (.int .u64 (v.a : Int)) (.int .u64 (v.b : Int)) (.int .u64 (v.c : Int)) ∧ CoresAt u v i ∧ ¬ (u.a = v.a ∧ u.b = v.b ∧ u.c = v.c) ∧
    a' = { tmps := #[.agg #[.int .u64 (u.a : Int), .int .u64 (u.b : Int), .int .u64 (u.c : Int)], .agg #[.int .u64 (v.a : Int), .int .u64 (v.b : Int), .int .u64 (v.c : Int)], .pointer (some ⟨w.heap.size, 0, none⟩), .pointer (some ⟨w.heap.size + 1, 0, none⟩), .int .i64 0, .int .i64 i, u6, u7, u8, u9, u10, u11, u12, u13, u14, u15, u16, u17, u18, u19, u20, u21, u22, u23, u24], defers := [] }
def CoresM (a' : Act) (_ : World) : Nat := 4 - (intOf (a'.tmps.getD 5 undef)).toNat
theorem beq_no {x y : Nat} (h : x ≠ y) : ((x : Int) == (y : Int)) = false := by simp; omega
theorem beq_yes {x y : Nat} (h : x = y) : ((x : Int) == (y : Int)) = true := by simp [h]

set_option maxRecDepth 100000 in
set_option maxHeartbeats 1600000 in
theorem cores_anyD (u v : Ver) (w : World) :
    Calls Tryz.prog 130 #[.agg #[.int .u64 (u.a : Int), .int .u64 (u.b : Int), .int .u64 (u.c : Int)], .agg #[.int .u64 (v.a : Int), .int .u64 (v.b : Int), .int .u64 (v.c : Int)]] w fun e w' => e = .returned (.int .i64 (cmpCore u v)) ∧ BelowD w.heap.size w w' := by
  have HBa : Hid (BelowD w.heap.size w ((w.alloc (.cells #[.int .u64 (u.a : Int), .int .u64 (u.b : Int), .int .u64 (u.c : Int)] 147)).alloc (.cells #[.int .u64 (v.a : Int), .int .u64 (v.b : Int), .int .u64 (v.c : Int)] 147))) := ((BelowD.refl _ _).alloc (Nat.le_refl _) _).alloc (by simp) _
  have K1 : Hid (At3 ((w.alloc (.cells #[.int .u64 (u.a : Int), .int .u64 (u.b : Int), .int .u64 (u.c : Int)] 147)).alloc (.cells #[.int .u64 (v.a : Int), .int .u64 (v.b : Int), .int .u64 (v.c : Int)] 147)) w.heap.size (.int .u64 (u.a : Int)) (.int .u64 (u.b : Int)) (.int .u64 (u.c : Int))) := (At3.new w 147 _ _ _).kept ((Below.refl _ _).alloc (Nat.le_refl _) _) (by simp)
  have K2 : Hid (At3 ((w.alloc (.cells #[.int .u64 (u.a : Int), .int .u64 (u.b : Int), .int .u64 (u.c : Int)] 147)).alloc (.cells #[.int .u64 (v.a : Int), .int .u64 (v.b : Int), .int .u64 (v.c : Int)] 147)) (w.heap.size + 1) (.int .u64 (v.a : Int)) (.int .u64 (v.b : Int)) (.int .u64 (v.c : Int))) := by
    have := At3.new (w.alloc (.cells #[.int .u64 (u.a : Int), .int .u64 (u.b : Int), .int .u64 (u.c : Int)] 147)) 147 (.int .u64 (v.a : Int)) (.int .u64 (v.b : Int)) (.int .u64 (v.c : Int))
    rw [size_alloc] at this; exact this
  go_enter Tryz.func130, Tryz.ntmps130
  go_wp2
  refine wp_scope_back 0 (CoresJ w u v) CoresM rfl ?_ ?_
  · rintro a' w1 ⟨i, u6, u7, u8, u9, u10, u11, u12, u13, u14, u15, u16, u17, u18, u19, u20, u21, u22, u23, u24, hb1, k1, k2, hat, hne, rfl⟩
    have HB1 := Lib.hid hb1
    have L1 := Lib.hid k1
    have L2 := Lib.hid k2
    have hz1 := k2.1
    obtain ⟨_, _, x0, x1, x2⟩ := k1
    obtain ⟨_, _, y0, y1, y2⟩ := k2
    clear hb1
    rcases hat with rfl | ⟨rfl, h1⟩ | ⟨rfl, h1, h2⟩
    · by_cases h : u.a = v.a
      · have e1 := beq_yes h
        have HH := Lib.hid h
        have HN := Lib.hid hne
        clear h hne
        go_wp2
        go_still (by kernel_rfl)
        have HB2 := Lib.hid HB1.out.drew
        have M1 := Lib.hid (L1.out.kept (B := w1.heap.size) (Below.refl _ _).drew (by omega))
        have M2 := Lib.hid (L2.out.kept (B := w1.heap.size) (Below.refl _ _).drew (by omega))
        go_wp2
        go_step3
        refine ⟨rfl, ⟨1, _, _, _, _, _, _, _, _, _, _, _, _, _, _, _, _, _, _, _, HB2.out, M1.out, M2.out, .inr (.inl ⟨rfl, HH.out⟩), HN.out, rfl⟩, ?_⟩
        simp [CoresM, intOf]
      · have e1 := beq_no h
        have HF : Hid (cmpCore u v = ordN u.a v.a) := cmpCore_1 h
        clear h hne
        go_wp2
        go_still (by kernel_rfl)
        have HB2 := Lib.hid HB1.out.drew
        have M1 := Lib.hid (L1.out.kept (B := w1.heap.size) (Below.refl _ _).drew (by omega))
        have M2 := Lib.hid (L2.out.kept (B := w1.heap.size) (Below.refl _ _).drew (by omega))
        clear x0 x1 x2 y0 y1 y2
        change Exit.then _ _ _ _ w1.drew
        generalize w1.drew = w2 at HB2 M1 M2 ⊢
        obtain ⟨_, _, x0, x1, x2⟩ := M1.out
        obtain ⟨_, _, y0, y1, y2⟩ := M2.out
        go_wp2
        go_still_tail 6, (by kernel_rfl)
        change wpList _ _ _ _ _ w2.drew
        have HB3 := Lib.hid HB2.out.drew
        generalize w2.drew = w3 at HB3 ⊢
        go_wp2_with fail
        refine (cmpU_any _ _ _).mono ?_
        rintro e w' ⟨rfl, rfl⟩
        go_wp2
        simp only [Exit.jump]
        go_ret
        exact ⟨by rw [HF.out]; rfl, HB3.out⟩
    · have H1 := Lib.hid h1
      clear h1
      by_cases h : u.b = v.b
      · have e1 := beq_yes h
        have HH := Lib.hid h
        have HN := Lib.hid hne
        clear h hne
        go_wp2
        go_still (by kernel_rfl)
        have HB2 := Lib.hid HB1.out.drew
        have M1 := Lib.hid (L1.out.kept (B := w1.heap.size) (Below.refl _ _).drew (by omega))
        have M2 := Lib.hid (L2.out.kept (B := w1.heap.size) (Below.refl _ _).drew (by omega))
        go_wp2
        go_step3
        refine ⟨rfl, ⟨2, _, _, _, _, _, _, _, _, _, _, _, _, _, _, _, _, _, _, _, HB2.out, M1.out, M2.out, .inr (.inr ⟨rfl, H1.out, HH.out⟩), HN.out, rfl⟩, ?_⟩
        simp [CoresM, intOf]
      · have e1 := beq_no h
        have HF : Hid (cmpCore u v = ordN u.b v.b) := cmpCore_2 H1.out h
        clear h hne
        go_wp2
        go_still (by kernel_rfl)
        have HB2 := Lib.hid HB1.out.drew
        have M1 := Lib.hid (L1.out.kept (B := w1.heap.size) (Below.refl _ _).drew (by omega))
        have M2 := Lib.hid (L2.out.kept (B := w1.heap.size) (Below.refl _ _).drew (by omega))
        clear x0 x1 x2 y0 y1 y2
        change Exit.then _ _ _ _ w1.drew
        generalize w1.drew = w2 at HB2 M1 M2 ⊢
        obtain ⟨_, _, x0, x1, x2⟩ := M1.out
        obtain ⟨_, _, y0, y1, y2⟩ := M2.out
        go_wp2
        go_still_tail 6, (by kernel_rfl)
        change wpList _ _ _ _ _ w2.drew
        have HB3 := Lib.hid HB2.out.drew
        generalize w2.drew = w3 at HB3 ⊢
        go_wp2_with fail
        refine (cmpU_any _ _ _).mono ?_
        rintro e w' ⟨rfl, rfl⟩
        go_wp2
        simp only [Exit.jump]
        go_ret
        exact ⟨by rw [HF.out]; rfl, HB3.out⟩
    · have H1 := Lib.hid h1
      have H2 := Lib.hid h2
      clear h1 h2
      by_cases h : u.c = v.c
      · exact absurd ⟨H1.out, H2.out, h⟩ hne
      · have e1 := beq_no h
        have HF : Hid (cmpCore u v = ordN u.c v.c) := cmpCore_3 H1.out H2.out
        clear h hne
        go_wp2
        go_still (by kernel_rfl)
        have HB2 := Lib.hid HB1.out.drew
        have M1 := Lib.hid (L1.out.kept (B := w1.heap.size) (Below.refl _ _).drew (by omega))
        have M2 := Lib.hid (L2.out.kept (B := w1.heap.size) (Below.refl _ _).drew (by omega))
        clear x0 x1 x2 y0 y1 y2
        change Exit.then _ _ _ _ w1.drew
        generalize w1.drew = w2 at HB2 M1 M2 ⊢
        obtain ⟨_, _, x0, x1, x2⟩ := M1.out
        obtain ⟨_, _, y0, y1, y2⟩ := M2.out
        go_wp2
        go_still_tail 6, (by kernel_rfl)
        change wpList _ _ _ _ _ w2.drew
        have HB3 := Lib.hid HB2.out.drew
        generalize w2.drew = w3 at HB3 ⊢
        go_wp2_with fail
        refine (cmpU_any _ _ _).mono ?_
        rintro e w' ⟨rfl, rfl⟩
        go_wp2
        simp only [Exit.jump]
        go_ret
        exact ⟨by rw [HF.out]; rfl, HB3.out⟩
  · intro HP
    by_cases hn : u.a = v.a ∧ u.b = v.b ∧ u.c = v.c
    · have HF : Hid (cmpCore u v = 0) := by
        unfold Hid
        rw [cmpCore_3 hn.1 hn.2.1]; exact ordN_eq hn.2.2
      have kq := fun W => run_eq3 u.a u.b u.c v.a v.b v.c W
      rw [beq_yes hn.1, beq_yes hn.2.1, beq_yes hn.2.2] at kq
      clear hn
      go_wp2
      simp only [Exit.jump]
      go_ret
      exact ⟨by rw [HF.out]; rfl, HBa.out⟩
    · have HN := Lib.hid hn
      have hq : (((u.a : Int) == (v.a : Int)) && (((u.b : Int) == (v.b : Int)) && ((u.c : Int) == (v.c : Int)))) = false := by
        rw [← Bool.not_eq_true]; simp only [Bool.and_eq_true, beq_iff_eq]; omega
      have kq := fun W => run_eq3 u.a u.b u.c v.a v.b v.c W
      rw [hq] at kq
      clear hn hq
      go_wp2
      go_step3
      rename_i hK
      exact hK _ _ (HP.out _ _ ⟨0, _, _, _, _, _, _, _, _, _, _, _, _, _, _, _, _, _, _, _, HBa.out, K1.out, K2.out, .inl rfl, HN.out, rfl⟩)
end Go.Proofs.YtgfbflnhjpbceaaGreatDoor.Prec
