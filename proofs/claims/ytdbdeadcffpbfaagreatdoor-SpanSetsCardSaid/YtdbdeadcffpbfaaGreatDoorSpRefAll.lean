/-
  Texts with zeros put ahead: of one length they stand as their numbers do. Plain facts.
  How identifiers and rows of them compare, by the document's own answers (ferruleref02.Compare, Rows): as the program has it. Conditions: the texts have at most 1000 bytes each; the slices read as the lists.
  How versions stand by the document's own answer (ferruleref04.numbers, Compare): as the program has it. Conditions: the rows lie where the versions say; the texts have at most 1000 bytes each.
  The document's own answer on whether two rows are the same (ferruleref02.Same). Condition: the slices read as the lists xs and ys.
  The document's own look at which rows are good (ferruleref02.Good). Conditions: the slice reads as the list xs; the lengths are those that the form allows.
  The document's own answers on which versions are right and the same (ferruleref03.Good, Same). Conditions: the rows read as the lists pre and build; for Good they are few and short.
  Which cuts are right, by the document's own answer (ferruleref05.Right). Condition: the version's rows lie where the cut says, and have lengths that the form allows.
  How cuts compare by the document's own answer (ferruleref05.Compare). Conditions: the versions' rows lie where the cuts say, and have lengths that the form allows.
-/
import Derived.Test.YtdbdeadcffpbfaaGreatDoorNumIs
import Derived.Test.YtdbdeadcffpbfaaGreatDoorIdMem
import Derived.Test.YtdbdeadcffpbfaaGreatDoorIdMath
import Derived.Test.YtdbdeadcffpbfaaGreatDoorIdRef
import Derived.StillTailTactics
import Derived.Deep.CutBlock
import Derived.Deep.DeepCutAuto
import Derived.Test.YtdbdeadcffpbfaaGreatDoorPrMath
import Derived.Test.YtdbdeadcffpbfaaGreatDoorSvMem
import Derived.Test.YtdbdeadcffpbfaaGreatDoorIdGoodMath
import Derived.Test.YtdbdeadcffpbfaaGreatDoorSvPlain
import Derived.Test.YtdbdeadcffpbfaaGreatDoorSpMem
namespace Go.Proofs.YtdbdeadcffpbfaaGreatDoor.Num
open Go.RowKit

def strSize : Value → Nat
  | .string s => s.size
  | _ => 0
/-- A text with zeros put ahead. -/
def Zeros (l : List UInt8) (t : ByteArray) : Prop := ∃ z, t.data.toList = List.replicate z 48 ++ l
theorem zero_size (s : ByteArray) : ((⟨#[48]⟩ : ByteArray) ++ s).size = s.size + 1 := by
  rw [ByteArray.size_append]; show 1 + s.size = _; omega
theorem zero_ahead {l : List UInt8} {s : ByteArray} (h : Zeros l s) : Zeros l ((⟨#[48]⟩ : ByteArray) ++ s) := by
  obtain ⟨z, hz⟩ := h
  refine ⟨z + 1, ?_⟩
  rw [ByteArray.data_append, Array.toList_append, hz, List.replicate_succ]
  rfl
theorem zeros_val (z : Nat) (l : List UInt8) : val (List.replicate z 48 ++ l) = val l := by
  induction z with
  | zero => rfl
  | succ z ih =>
    rw [List.replicate_succ, List.cons_append, val_cons, ih]
    simp
theorem zeros_dig (z : Nat) {l : List UInt8} (h : AllDig l) : AllDig (List.replicate z 48 ++ l) := by
  intro b hb
  rw [List.mem_append] at hb
  rcases hb with hb | hb
  · rw [List.eq_of_mem_replicate hb]; decide
  · exact h b hb

/-- What two texts with zeros ahead, of one length, answer. -/
theorem zeros_less {l r : List UInt8} {s t : ByteArray} (hl : AllDig l) (hr : AllDig r) (hs : Zeros l s) (ht : Zeros r t) (h : s.size = t.size) : (Op.bytesLess s.toList t.toList = true ↔ val l < val r) := by
  obtain ⟨y, hy⟩ := hs
  obtain ⟨z, hz⟩ := ht
  rw [Lib.size_eq, Lib.size_eq, hy, hz] at h
  rw [Lib.toList_data, Lib.toList_data, hy, hz, less_val _ _ (zeros_dig y hl) (zeros_dig z hr) h, zeros_val, zeros_val]
theorem zeros_eq {l r : List UInt8} {s t : ByteArray} (hl : AllDig l) (hr : AllDig r) (hs : Zeros l s) (ht : Zeros r t) (h : s.size = t.size) : ((s.toList == t.toList) = true ↔ val l = val r) := by
  obtain ⟨y, hy⟩ := hs
  obtain ⟨z, hz⟩ := ht
  rw [Lib.size_eq, Lib.size_eq, hy, hz] at h
  rw [Lib.toList_data, Lib.toList_data, hy, hz, beq_iff_eq]
  constructor
  · intro e
    have := congrArg val e
    rwa [zeros_val, zeros_val] at this
  · intro e
    exact val_inj _ _ (zeros_dig y hl) (zeros_dig z hr) h (by rw [zeros_val, zeros_val]; exact e)
end Go.Proofs.YtdbdeadcffpbfaaGreatDoor.Num

namespace Go.Proofs.YtdbdeadcffpbfaaGreatDoor.Ident
open Go.RowKit Num

theorem compare_less : ∀ (a b : List UInt8), a ≠ b → Lib.compareBytes a b = if Op.bytesLess a b = true then -1 else 1 := by
  intro a
  induction a with
  | nil =>
    intro b h
    cases b with
    | nil => exact absurd rfl h
    | cons y b => simp [Lib.compareBytes, Op.bytesLess]
  | cons x a ih =>
    intro b h
    cases b with
    | nil => simp [Lib.compareBytes, Op.bytesLess]
    | cons y b =>
      unfold Lib.compareBytes Op.bytesLess
      rcases Nat.lt_trichotomy x.toNat y.toNat with g | g | g
      · have g1 : x < y := UInt8.lt_iff_toNat_lt.2 g
        simp [g1]
      · have e : x = y := UInt8.toNat_inj.1 g
        subst e
        have := ih b (fun e => h (by rw [e]))
        simp [UInt8.lt_irrefl, this]
      · have g1 : y < x := UInt8.lt_iff_toNat_lt.2 g
        have g2 : ¬ x < y := fun k => by have := UInt8.lt_iff_toNat_lt.1 k; omega
        have g3 : ¬ x = y := fun k => by subst k; exact g2 g1
        simp [g1, g2, g3]
theorem numeric_all {a : List UInt8} (h : numeric a = true) : AllDig a := all_of_run ((numeric_iff a).1 h).2
/-- Both digits alone. -/
theorem cmpId_both {a b : List UInt8} (ha : numeric a = true) (hb : numeric b = true) : cmpId a b = if ordN (val a) (val b) = 0 then ordN a.length b.length else ordN (val a) (val b) := by
  unfold cmpId; rw [if_pos ha, if_pos hb]
theorem cmpId_first {a b : List UInt8} (ha : numeric a = true) (hb : numeric b = false) : cmpId a b = -1 := by
  unfold cmpId; rw [if_pos ha, if_neg (by rw [hb]; decide)]
theorem cmpId_second {a b : List UInt8} (ha : numeric a = false) (hb : numeric b = true) : cmpId a b = 1 := by
  unfold cmpId; rw [if_neg (by rw [ha]; decide), if_pos hb]
theorem cmpId_neither {a b : List UInt8} (ha : numeric a = false) (hb : numeric b = false) : cmpId a b = Lib.compareBytes a b := by
  unfold cmpId; rw [if_neg (by rw [ha]; decide), if_neg (by rw [hb]; decide)]

set_option maxRecDepth 100000 in
set_option maxHeartbeats 3200000 in
theorem refCmp_any (s t : ByteArray) (w : World) (hs : s.size ≤ 1000) (ht : t.size ≤ 1000) :
    Calls Tryz.prog 47 #[.string s, .string t] w fun e w' => e = .returned (.int .i64 (cmpId s.data.toList t.data.toList)) ∧ w = w' := by
  by_cases hst : s = t
  · have HF : Hid (cmpId s.data.toList t.data.toList = 0) := by rw [hst]; exact cmpId_self _
    subst hst
    have hq : (s.toList == s.toList) = true := by simp
    go_enter Tryz.func47, Tryz.ntmps47
    go_wp2
    go_ret
    exact ⟨by rw [HF.out]; rfl, rfl⟩
  have HNE : Hid (s.data.toList ≠ t.data.toList) := fun h => hst (by have := congrArg mk h; exact this)
  have hq : (s.toList == t.toList) = false := by
    rw [Lib.toList_data, Lib.toList_data, beq_eq_false_iff_ne]; exact HNE.out
  clear hst
  cases ha : numeric s.data.toList
  · cases hb : numeric t.data.toList
    · have HF : Hid (cmpId s.data.toList t.data.toList = if Op.bytesLess s.toList t.toList = true then -1 else 1) := by
        unfold Hid
        rw [cmpId_neither ha hb, compare_less _ _ HNE.out, Lib.toList_data, Lib.toList_data]
      have HA := Lib.hid ha; clear ha
      have HC := Lib.hid hb; clear hb
      cases hl : Op.bytesLess s.toList t.toList
      · rw [hl, if_neg (by decide)] at HF
        go_enter Tryz.func47, Tryz.ntmps47
        go_wp2_with fail
        refine (ref_numeric_any s _ (by omega)).mono ?_
        rintro e w' ⟨rfl, rfl⟩
        rw [HA.out]
        go_wp2_with fail
        refine (ref_numeric_any t _ (by omega)).mono ?_
        rintro e w' ⟨rfl, rfl⟩
        rw [HC.out]
        go_wp2
        go_ret
        exact ⟨by rw [HF.out]; rfl, rfl⟩
      · rw [hl, if_pos rfl] at HF
        go_enter Tryz.func47, Tryz.ntmps47
        go_wp2_with fail
        refine (ref_numeric_any s _ (by omega)).mono ?_
        rintro e w' ⟨rfl, rfl⟩
        rw [HA.out]
        go_wp2_with fail
        refine (ref_numeric_any t _ (by omega)).mono ?_
        rintro e w' ⟨rfl, rfl⟩
        rw [HC.out]
        go_wp2
        go_ret
        exact ⟨by rw [HF.out]; rfl, rfl⟩
    · have HF := Lib.hid (cmpId_second ha hb)
      have HA := Lib.hid ha; clear ha
      have HC := Lib.hid hb; clear hb
      go_enter Tryz.func47, Tryz.ntmps47
      go_wp2_with fail
      refine (ref_numeric_any s _ (by omega)).mono ?_
      rintro e w' ⟨rfl, rfl⟩
      rw [HA.out]
      go_wp2_with fail
      refine (ref_numeric_any t _ (by omega)).mono ?_
      rintro e w' ⟨rfl, rfl⟩
      rw [HC.out]
      go_wp2
      go_ret
      exact ⟨by rw [HF.out]; rfl, rfl⟩
  · cases hb : numeric t.data.toList
    · have HF := Lib.hid (cmpId_first ha hb)
      have HA := Lib.hid ha; clear ha
      have HC := Lib.hid hb; clear hb
      go_enter Tryz.func47, Tryz.ntmps47
      go_wp2_with fail
      refine (ref_numeric_any s _ (by omega)).mono ?_
      rintro e w' ⟨rfl, rfl⟩
      rw [HA.out]
      go_wp2_with fail
      refine (ref_numeric_any t _ (by omega)).mono ?_
      rintro e w' ⟨rfl, rfl⟩
      rw [HC.out]
      go_wp2
      go_ret
      exact ⟨by rw [HF.out]; rfl, rfl⟩
    · have HF := Lib.hid (cmpId_both ha hb)
      have AA := Lib.hid (numeric_all ha)
      have AB := Lib.hid (numeric_all hb)
      have HA := Lib.hid ha; clear ha
      have HC := Lib.hid hb; clear hb
      go_enter Tryz.func47, Tryz.ntmps47
      go_wp2_with fail
      refine (ref_numeric_any s _ (by omega)).mono ?_
      rintro e w' ⟨rfl, rfl⟩
      rw [HA.out]
      go_wp2_with fail
      refine (ref_numeric_any t _ (by omega)).mono ?_
      rintro e w' ⟨rfl, rfl⟩
      rw [HC.out]
      have HVI : Hid (val s.data.toList = val t.data.toList → s.size ≠ t.size) := fun h1 h2 => HNE.out (val_inj _ _ AA.out AB.out (by rw [← Lib.size_eq, ← Lib.size_eq]; exact h2) h1)
      have HL1 := Lib.hid (Lib.size_eq s)
      have HL2 := Lib.hid (Lib.size_eq t)
      have ZA : Hid (Zeros s.data.toList s) := ⟨0, rfl⟩
      have ZB : Hid (Zeros t.data.toList t) := ⟨0, rfl⟩
      obtain ⟨l, hl⟩ : ∃ l, s.data.toList = l := ⟨_, rfl⟩
      obtain ⟨r, hr⟩ : ∃ r, t.data.toList = r := ⟨_, rfl⟩
      have HG : Hid (cmpId s.data.toList t.data.toList = if ordN (val l) (val r) = 0 then ordN s.size t.size else ordN (val l) (val r)) := by have := HF.out; rw [← HL1.out, ← HL2.out, hl, hr] at this; rw [hl, hr]; exact this
      rw [hl] at AA ZA HVI
      rw [hr] at AB ZB HVI
      clear HF HA HC hl hr HL1 HL2 HNE
      go_wp2
      go_loop [8] (fun v => ∃ s' : ByteArray, v = .string s' ∧ Hid (Zeros l s') ∧ s'.size ≤ 1000) (fun v => t.size - strSize v)
      case atStart => exact ⟨s, rfl, ZA, hs⟩
      case round =>
        obtain ⟨s', rfl, ZS, hs'⟩ := hrel
        by_cases hlt : s'.size < t.size
        · go_wp2
          go_round
          case rel => exact ⟨_, rfl, zero_ahead ZS.out, by rw [zero_size]; omega⟩
          case measure => simp only [strSize]; rw [zero_size]; omega
        · go_wp2
          go_loop [9] (fun v => ∃ t' : ByteArray, v = .string t' ∧ Hid (Zeros r t') ∧ t'.size ≤ s'.size) (fun v => s'.size - strSize v)
          case atStart => exact ⟨t, rfl, ZB, by omega⟩
          case round =>
            obtain ⟨t', rfl, ZT, ht'⟩ := hrel
            by_cases hlt2 : t'.size < s'.size
            · go_wp2
              go_round
              case rel => exact ⟨_, rfl, zero_ahead ZT.out, by rw [zero_size]; omega⟩
              case measure => simp only [strSize]; rw [zero_size]; omega
            · have hsz : s'.size = t'.size := by omega
              have h1 := zeros_less AA.out AB.out ZS.out ZT.out hsz
              have h2 := zeros_eq AA.out AB.out ZS.out ZT.out hsz
              clear hsz
              rcases Nat.lt_trichotomy (val l) (val r) with h | h | h
              · have hb1 : Op.bytesLess s'.toList t'.toList = true := h1.2 h
                have HO : Hid (cmpId s.data.toList t.data.toList = -1) := by have := HG.out; rw [ordN_lt h, if_neg (by decide)] at this; exact this
                clear h h1 h2
                go_wp2
                go_ret
                exact ⟨by rw [HO.out]; rfl, rfl⟩
              · have hb1 : Op.bytesLess s'.toList t'.toList = false := by rw [← Bool.not_eq_true, h1]; omega
                have hb2 : (s'.toList == t'.toList) = true := h2.2 h
                have hne := HVI.out h
                have HO : Hid (cmpId s.data.toList t.data.toList = ordN s.size t.size) := by have := HG.out; rw [ordN_eq h, if_pos rfl] at this; exact this
                clear h h1 h2
                by_cases hlen : s.size < t.size
                · have HO2 := Lib.hid (HO.out.trans (ordN_lt hlen))
                  clear hne
                  go_wp2
                  go_ret
                  exact ⟨by rw [HO2.out]; rfl, rfl⟩
                · have HO2 := Lib.hid (HO.out.trans (ordN_gt (by omega)))
                  clear hne
                  go_wp2
                  go_ret
                  exact ⟨by rw [HO2.out]; rfl, rfl⟩
              · have hb1 : Op.bytesLess s'.toList t'.toList = false := by rw [← Bool.not_eq_true, h1]; omega
                have hb2 : (s'.toList == t'.toList) = false := by rw [← Bool.not_eq_true, h2]; omega
                have HO : Hid (cmpId s.data.toList t.data.toList = 1) := by have := HG.out; rw [ordN_gt h, if_neg (by decide)] at this; exact this
                clear h h1 h2
                go_wp2
                go_ret
                exact ⟨by rw [HO.out]; rfl, rfl⟩

theorem drop_rows (xs : List (List UInt8)) (k : Nat) (h : k < xs.length) : xs.drop k = xs.getD k [] :: xs.drop (k + 1) := by
  rw [List.drop_eq_getElem_cons h]; simp [List.getD, List.getElem?_eq_getElem h]
theorem text_mem (xs : List (List UInt8)) (k : Nat) (h : k < xs.length) : xs.getD k [] ∈ xs := by simp [List.getD, List.getElem?_eq_getElem h]
theorem refRows_end {xs ys : List (List UInt8)} {k : Nat} (h : ¬ (k < xs.length ∧ k < ys.length)) (h1 : k ≤ xs.length) (h2 : k ≤ ys.length) : cmpRows (xs.drop k) (ys.drop k) = ordN xs.length ys.length := by
  have e : cmpRows (xs.drop k) (ys.drop k) = ordN (xs.drop k).length (ys.drop k).length := by
    rcases Nat.lt_or_ge k xs.length with g | g
    · rw [show ys.drop k = [] from List.drop_eq_nil_of_le (by omega), cmpRows_nil']; rfl
    · rw [show xs.drop k = [] from List.drop_eq_nil_of_le g, cmpRows_nil]; rfl
  rw [e, List.length_drop, List.length_drop]
  rcases Nat.lt_trichotomy xs.length ys.length with g | g | g
  · rw [ordN_lt g, ordN_lt (by omega)]
  · rw [ordN_eq g, ordN_eq (by omega)]
  · rw [ordN_gt g, ordN_gt (by omega)]

set_option maxRecDepth 100000 in
set_option maxHeartbeats 3200000 in
theorem refRows_any (A : Option Addr) (a ca : Nat) (xs : List (List UInt8)) (B : Option Addr) (b cb : Nat) (ys : List (List UInt8)) (w : World) (hA : SRow w A a xs) (hB : SRow w B b ys) (ha : a ≤ maxLen) (hb : b ≤ maxLen) (hx : ∀ x ∈ xs, x.length ≤ 1000) (hy : ∀ y ∈ ys, y.length ≤ 1000) :
    Calls Tryz.prog 34 #[.slice A a ca, .slice B b cb] w fun e w' => e = .returned (.int .i64 (cmpRows xs ys)) ∧ Below w.heap.size w w' := by
  unfold maxLen at ha hb
  have HA := Lib.hid hA
  have HB := Lib.hid hB
  have HX := Lib.hid hx
  have HY := Lib.hid hy
  have HLA := Lib.hid hA.1
  have HLB := Lib.hid hB.1
  clear hA hB hx hy
  go_enter Tryz.func34, Tryz.ntmps34
  go_wp2
  go_loopw [5] (fun i W => ∃ k : Nat, k ≤ a ∧ k ≤ b ∧ i = .int .i64 k ∧ Hid (cmpRows (xs.drop k) (ys.drop k) = cmpRows xs ys) ∧ Hid (Below w.heap.size w W)) (fun i _ => a - (intOf i).toNat)
  case atStart => exact ⟨0, Nat.zero_le _, Nat.zero_le _, rfl, rfl, Below.refl _ _⟩
  case round =>
    obtain ⟨k, hk1, hk2, rfl, HG, HW⟩ := hrel
    by_cases hka : k < a
    · by_cases hkb : k < b
      · obtain ⟨g1, o1, rfl, hg1, hc1⟩ := (HA.out.kept HW.out).2 (by omega)
        obtain ⟨g2, o2, rfl, hg2, hc2⟩ := (HB.out.kept HW.out).2 (by omega)
        have hx1 := hc1 k hka
        have hx2 := hc2 k hkb
        clear hc1 hc2
        have HZ1 := Lib.hid (HX.out _ (text_mem xs k (by rw [HLA.out]; exact hka)))
        have HZ2 := Lib.hid (HY.out _ (text_mem ys k (by rw [HLB.out]; exact hkb)))
        have HD : Hid (cmpRows xs ys = if cmpId (xs.getD k []) (ys.getD k []) = 0 then cmpRows (xs.drop (k + 1)) (ys.drop (k + 1)) else cmpId (xs.getD k []) (ys.getD k [])) := by
          unfold Hid
          rw [← HG.out, drop_rows xs k (by rw [HLA.out]; exact hka), drop_rows ys k (by rw [HLB.out]; exact hkb), cmpRows]
        generalize xs.getD k [] = s at hx1 HZ1 HD
        generalize ys.getD k [] = t at hx2 HZ2 HD
        go_wp2
        go_still_tail 8, (by kernel_rfl)
        change wpList _ _ _ _ _ wr.drew
        have HW2 := Lib.hid HW.out.drew
        generalize wr.drew = w2 at HW2
        clear hx1 hx2
        go_wp2_with fail
        refine (refCmp_any (mk s) (mk t) _ HZ1.out HZ2.out).mono ?_
        rintro e w' ⟨rfl, rfl⟩
        rw [mk_list, mk_list]
        generalize cmpId s t = c at HD ⊢
        by_cases hc : c = 0
        · have HD2 : Hid (cmpRows (xs.drop (k + 1)) (ys.drop (k + 1)) = cmpRows xs ys) := by have := HD.out; rw [if_pos hc] at this; exact this.symm
          subst hc
          clear HD
          go_wp2
          exact ⟨⟨k + 1, by omega, by omega, by go_num, HD2.out, HW2.out⟩, by simp [intOf]; omega⟩
        · have HD2 : Hid (cmpRows xs ys = c) := by have := HD.out; rw [if_neg hc] at this; exact this
          have hn : (c == 0) = false := by simp [hc]
          have hn2 : (c != 0) = true := by simp [hc]
          clear HD hc
          go_wp2
          go_ret
          exact ⟨by rw [HD2.out]; rfl, HW2.out⟩
      · have HE : Hid (cmpRows xs ys = ordN a b) := by unfold Hid; rw [← HG.out, refRows_end (by rw [HLA.out, HLB.out]; omega) (by rw [HLA.out]; omega) (by rw [HLB.out]; omega), HLA.out, HLB.out]
        have HE2 := Lib.hid (HE.out.trans (ordN_gt (by omega)))
        go_wp2
        go_ret
        exact ⟨by rw [HE2.out]; rfl, HW.out⟩
    · have HE : Hid (cmpRows xs ys = ordN a b) := by unfold Hid; rw [← HG.out, refRows_end (by rw [HLA.out, HLB.out]; omega) (by rw [HLA.out]; omega) (by rw [HLB.out]; omega), HLA.out, HLB.out]
      obtain rfl : k = a := by omega
      rcases Nat.lt_or_ge k b with hlt | hge
      · have HE2 := Lib.hid (HE.out.trans (ordN_lt hlt))
        go_wp2
        go_ret
        exact ⟨by rw [HE2.out]; rfl, HW.out⟩
      · obtain rfl : k = b := by omega
        have HE2 := Lib.hid (HE.out.trans (ordN_eq rfl))
        go_wp2
        go_ret
        exact ⟨by rw [HE2.out]; rfl, HW.out⟩
end Go.Proofs.YtdbdeadcffpbfaaGreatDoor.Ident

namespace Go.Proofs.YtdbdeadcffpbfaaGreatDoor.Prec
open Go.RowKit Num Ident Semver

set_option maxRecDepth 100000 in
set_option maxHeartbeats 800000 in
theorem refNums_any (x y : Nat) (w : World) : Calls Tryz.prog 33 #[.int .u64 (x : Int), .int .u64 (y : Int)] w fun e w' => e = .returned (.int .i64 (ordN x y)) ∧ w = w' := by
  rcases Nat.lt_trichotomy x y with h | h | h
  · have HF := Lib.hid (ordN_lt h)
    go_enter Tryz.func33, Tryz.ntmps33
    go_wp2
    go_ret
    exact ⟨by rw [HF.out]; rfl, rfl⟩
  · have HF := Lib.hid (ordN_eq h)
    subst h
    go_enter Tryz.func33, Tryz.ntmps33
    go_wp2
    go_ret
    exact ⟨by rw [HF.out]; rfl, rfl⟩
  · have HF := Lib.hid (ordN_gt h)
    go_enter Tryz.func33, Tryz.ntmps33
    go_wp2
    go_ret
    exact ⟨by rw [HF.out]; rfl, rfl⟩
theorem cmpV_core {u v : Ver} (h : cmpCore u v ≠ 0) : cmpV u v = cmpCore u v := lex_no h
theorem cmpV_pre {u v : Ver} (h1 : u.a = v.a) (h2 : u.b = v.b) (h3 : u.c = v.c) : cmpV u v = cmpPre u.pre v.pre := lex_yes (f := cmpCore) (by
  unfold cmpCore
  refine (lex_yes (f := fun u v : Ver => ordN u.a v.a) ((ordN_zero_iff _ _).2 h1)).trans ?_
  refine (lex_yes (f := fun u v : Ver => ordN u.b v.b) ((ordN_zero_iff _ _).2 h2)).trans ?_
  exact (ordN_zero_iff _ _).2 h3)
theorem cmpV_1 {u v : Ver} (h : u.a ≠ v.a) : cmpV u v = ordN u.a v.a := by
  have e := cmpCore_1 h
  rw [cmpV_core (by rw [e]; exact fun k => h ((ordN_zero_iff _ _).1 k)), e]
theorem cmpV_2 {u v : Ver} (h1 : u.a = v.a) (h : u.b ≠ v.b) : cmpV u v = ordN u.b v.b := by
  have e := cmpCore_2 h1 h
  rw [cmpV_core (by rw [e]; exact fun k => h ((ordN_zero_iff _ _).1 k)), e]
theorem cmpV_3 {u v : Ver} (h1 : u.a = v.a) (h2 : u.b = v.b) (h : u.c ≠ v.c) : cmpV u v = ordN u.c v.c := by
  have e : cmpCore u v = ordN u.c v.c := by
    unfold cmpCore
    refine (lex_yes (f := fun u v : Ver => ordN u.a v.a) ((ordN_zero_iff _ _).2 h1)).trans ?_
    exact lex_yes (f := fun u v : Ver => ordN u.b v.b) ((ordN_zero_iff _ _).2 h2)
  rw [cmpV_core (by rw [e]; exact fun k => h ((ordN_zero_iff _ _).1 k)), e]
theorem pre_none {x y : List (List UInt8)} (h1 : x.length = 0) (h2 : y.length = 0) : cmpPre x y = 0 := by
  obtain rfl := List.eq_nil_of_length_eq_zero h1
  obtain rfl := List.eq_nil_of_length_eq_zero h2
  exact pre_ordr.self _
theorem pre_rows {x y : List (List UInt8)} (h1 : x.length ≠ 0) (h2 : y.length ≠ 0) : cmpPre x y = cmpRows x y := by
  unfold cmpPre; exact lex_yes (f := fun x y => ordN (noneN x) (noneN y)) (ordN_eq (by unfold noneN; rw [if_neg h1, if_neg h2]))

set_option maxRecDepth 100000 in
set_option maxHeartbeats 3200000 in
theorem refCompare_any (u v : Ver) (A1 A2 B1 B2 : Option Addr) (c1 c2 d1 d2 : Nat) (w : World) (r1 : SRow w A1 u.pre.length u.pre) (q1 : SRow w B1 v.pre.length v.pre) (n1 : u.pre.length ≤ maxLen) (n2 : v.pre.length ≤ maxLen) (f1 : ∀ x ∈ u.pre, x.length ≤ 1000) (g1 : ∀ x ∈ v.pre, x.length ≤ 1000) :
    Calls Tryz.prog 17 #[.agg #[.int .u64 (u.a : Int), .int .u64 (u.b : Int), .int .u64 (u.c : Int), .slice A1 u.pre.length c1, .slice A2 u.build.length c2], .agg #[.int .u64 (v.a : Int), .int .u64 (v.b : Int), .int .u64 (v.c : Int), .slice B1 v.pre.length d1, .slice B2 v.build.length d2]] w fun e w' => e = .returned (.int .i64 (cmpV u v)) ∧ Below w.heap.size w w' := by
  have HBa : Hid (Below w.heap.size w ((w.alloc (.cells #[.int .u64 (u.a : Int), .int .u64 (u.b : Int), .int .u64 (u.c : Int), .slice A1 u.pre.length c1, .slice A2 u.build.length c2] 32)).alloc (.cells #[.int .u64 (v.a : Int), .int .u64 (v.b : Int), .int .u64 (v.c : Int), .slice B1 v.pre.length d1, .slice B2 v.build.length d2] 32))) := ((Below.refl _ _).alloc (Nat.le_refl _) _).alloc (by simp) _
  have R1 := Lib.hid (r1.kept HBa.out)
  have Q1 := Lib.hid (q1.kept HBa.out)
  have K1 : Hid (At5 ((w.alloc (.cells #[.int .u64 (u.a : Int), .int .u64 (u.b : Int), .int .u64 (u.c : Int), .slice A1 u.pre.length c1, .slice A2 u.build.length c2] 32)).alloc (.cells #[.int .u64 (v.a : Int), .int .u64 (v.b : Int), .int .u64 (v.c : Int), .slice B1 v.pre.length d1, .slice B2 v.build.length d2] 32)) w.heap.size (.int .u64 (u.a : Int)) (.int .u64 (u.b : Int)) (.int .u64 (u.c : Int)) (.slice A1 u.pre.length c1) (.slice A2 u.build.length c2)) := (At5.new w 32 _ _ _ _ _).kept ((Below.refl _ _).alloc (Nat.le_refl _) _) (by simp)
  have K2 : Hid (At5 ((w.alloc (.cells #[.int .u64 (u.a : Int), .int .u64 (u.b : Int), .int .u64 (u.c : Int), .slice A1 u.pre.length c1, .slice A2 u.build.length c2] 32)).alloc (.cells #[.int .u64 (v.a : Int), .int .u64 (v.b : Int), .int .u64 (v.c : Int), .slice B1 v.pre.length d1, .slice B2 v.build.length d2] 32)) (w.heap.size + 1) (.int .u64 (v.a : Int)) (.int .u64 (v.b : Int)) (.int .u64 (v.c : Int)) (.slice B1 v.pre.length d1) (.slice B2 v.build.length d2)) := by
    have := At5.new (w.alloc (.cells #[.int .u64 (u.a : Int), .int .u64 (u.b : Int), .int .u64 (u.c : Int), .slice A1 u.pre.length c1, .slice A2 u.build.length c2] 32)) 32 (.int .u64 (v.a : Int)) (.int .u64 (v.b : Int)) (.int .u64 (v.c : Int)) (.slice B1 v.pre.length d1) (.slice B2 v.build.length d2)
    rw [size_alloc] at this; exact this
  have N1 := Lib.hid n1
  have N2 := Lib.hid n2
  have F1 := Lib.hid f1
  have G1 := Lib.hid g1
  unfold maxLen at n1 n2
  clear r1 q1 f1 g1
  by_cases h1 : u.a = v.a
  · have e1 : ((u.a : Int) == (v.a : Int)) = true := by simp [h1]
    have e1' : ((u.a : Int) != (v.a : Int)) = false := by simp [h1]
    by_cases h2 : u.b = v.b
    · have e2 : ((u.b : Int) == (v.b : Int)) = true := by simp [h2]
      have e2' : ((u.b : Int) != (v.b : Int)) = false := by simp [h2]
      by_cases h3 : u.c = v.c
      · have e3 : ((u.c : Int) == (v.c : Int)) = true := by simp [h3]
        have e3' : ((u.c : Int) != (v.c : Int)) = false := by simp [h3]
        have HP := Lib.hid (cmpV_pre h1 h2 h3)
        clear h1 h2 h3
        by_cases hu : u.pre.length = 0
        · have eu : ((u.pre.length : Int) == 0) = true := by rw [beq_iff_eq]; omega
          by_cases hv : v.pre.length = 0
          · have ev : ((v.pre.length : Int) == 0) = true := by rw [beq_iff_eq]; omega
            have HF := Lib.hid (HP.out.trans (pre_none hu hv))
            clear hu hv
            go_enter Tryz.func17, Tryz.ntmps17
            go_upto_region 1 with (fail)
            generalize ((w.alloc (.cells #[.int .u64 (u.a : Int), .int .u64 (u.b : Int), .int .u64 (u.c : Int), .slice A1 u.pre.length c1, .slice A2 u.build.length c2] 32)).alloc (.cells #[.int .u64 (v.a : Int), .int .u64 (v.b : Int), .int .u64 (v.c : Int), .slice B1 v.pre.length d1, .slice B2 v.build.length d2] 32)) = W at HBa R1 Q1 K1 K2 ⊢
            obtain ⟨_, _, x0, x1, x2, x3, x4⟩ := K1.out
            obtain ⟨_, _, y0, y1, y2, y3, y4⟩ := K2.out
            go_wp2
            go_ret
            exact ⟨by rw [HF.out]; rfl, HBa.out⟩
          · have ev : ((v.pre.length : Int) == 0) = false := by rw [beq_eq_false_iff_ne]; omega
            have HF := Lib.hid (HP.out.trans (cmpPre_one hu hv))
            clear hu hv
            go_enter Tryz.func17, Tryz.ntmps17
            go_upto_region 1 with (fail)
            generalize ((w.alloc (.cells #[.int .u64 (u.a : Int), .int .u64 (u.b : Int), .int .u64 (u.c : Int), .slice A1 u.pre.length c1, .slice A2 u.build.length c2] 32)).alloc (.cells #[.int .u64 (v.a : Int), .int .u64 (v.b : Int), .int .u64 (v.c : Int), .slice B1 v.pre.length d1, .slice B2 v.build.length d2] 32)) = W at HBa R1 Q1 K1 K2 ⊢
            obtain ⟨_, _, x0, x1, x2, x3, x4⟩ := K1.out
            obtain ⟨_, _, y0, y1, y2, y3, y4⟩ := K2.out
            go_wp2
            go_ret
            exact ⟨by rw [HF.out]; rfl, HBa.out⟩
        · have eu : ((u.pre.length : Int) == 0) = false := by rw [beq_eq_false_iff_ne]; omega
          by_cases hv : v.pre.length = 0
          · have ev : ((v.pre.length : Int) == 0) = true := by rw [beq_iff_eq]; omega
            have HF := Lib.hid (HP.out.trans (cmpPre_two hu hv))
            clear hu hv
            go_enter Tryz.func17, Tryz.ntmps17
            go_upto_region 1 with (fail)
            generalize ((w.alloc (.cells #[.int .u64 (u.a : Int), .int .u64 (u.b : Int), .int .u64 (u.c : Int), .slice A1 u.pre.length c1, .slice A2 u.build.length c2] 32)).alloc (.cells #[.int .u64 (v.a : Int), .int .u64 (v.b : Int), .int .u64 (v.c : Int), .slice B1 v.pre.length d1, .slice B2 v.build.length d2] 32)) = W at HBa R1 Q1 K1 K2 ⊢
            obtain ⟨_, _, x0, x1, x2, x3, x4⟩ := K1.out
            obtain ⟨_, _, y0, y1, y2, y3, y4⟩ := K2.out
            go_wp2
            go_ret
            exact ⟨by rw [HF.out]; rfl, HBa.out⟩
          · have ev : ((v.pre.length : Int) == 0) = false := by rw [beq_eq_false_iff_ne]; omega
            have HF := Lib.hid (HP.out.trans (pre_rows hu hv))
            clear hu hv
            go_enter Tryz.func17, Tryz.ntmps17
            go_upto_region 1 with (fail)
            generalize ((w.alloc (.cells #[.int .u64 (u.a : Int), .int .u64 (u.b : Int), .int .u64 (u.c : Int), .slice A1 u.pre.length c1, .slice A2 u.build.length c2] 32)).alloc (.cells #[.int .u64 (v.a : Int), .int .u64 (v.b : Int), .int .u64 (v.c : Int), .slice B1 v.pre.length d1, .slice B2 v.build.length d2] 32)) = W at HBa R1 Q1 K1 K2 ⊢
            obtain ⟨_, _, x0, x1, x2, x3, x4⟩ := K1.out
            obtain ⟨_, _, y0, y1, y2, y3, y4⟩ := K2.out
            go_wp2_with fail
            refine (refRows_any _ _ _ u.pre _ _ _ v.pre _ R1.out Q1.out N1.out N2.out F1.out G1.out).mono ?_
            rintro e w3 ⟨rfl, hb3⟩
            have B3 := Lib.hid (HBa.out.trans (hb3.mono HBa.out.size))
            clear hb3 x0 x1 x2 x3 x4 y0 y1 y2 y3 y4
            go_wp2
            go_ret
            exact ⟨by rw [HF.out]; rfl, B3.out⟩
      · have e3 : ((u.c : Int) == (v.c : Int)) = false := by simp; omega
        have e3' : ((u.c : Int) != (v.c : Int)) = true := by simp; omega
        have HF := Lib.hid (cmpV_3 h1 h2 h3)
        clear h1 h2 h3
        go_enter Tryz.func17, Tryz.ntmps17
        go_upto_region 1 with (fail)
        generalize ((w.alloc (.cells #[.int .u64 (u.a : Int), .int .u64 (u.b : Int), .int .u64 (u.c : Int), .slice A1 u.pre.length c1, .slice A2 u.build.length c2] 32)).alloc (.cells #[.int .u64 (v.a : Int), .int .u64 (v.b : Int), .int .u64 (v.c : Int), .slice B1 v.pre.length d1, .slice B2 v.build.length d2] 32)) = W at HBa R1 Q1 K1 K2 ⊢
        obtain ⟨_, _, x0, x1, x2, x3, x4⟩ := K1.out
        obtain ⟨_, _, y0, y1, y2, y3, y4⟩ := K2.out
        go_wp2_with fail
        refine (refNums_any _ _ _).mono ?_
        rintro e w' ⟨rfl, rfl⟩
        go_wp2
        go_ret
        exact ⟨by rw [HF.out]; rfl, HBa.out⟩
    · have e2 : ((u.b : Int) == (v.b : Int)) = false := by simp; omega
      have e2' : ((u.b : Int) != (v.b : Int)) = true := by simp; omega
      have HF := Lib.hid (cmpV_2 h1 h2)
      clear h1 h2
      go_enter Tryz.func17, Tryz.ntmps17
      go_upto_region 1 with (fail)
      generalize ((w.alloc (.cells #[.int .u64 (u.a : Int), .int .u64 (u.b : Int), .int .u64 (u.c : Int), .slice A1 u.pre.length c1, .slice A2 u.build.length c2] 32)).alloc (.cells #[.int .u64 (v.a : Int), .int .u64 (v.b : Int), .int .u64 (v.c : Int), .slice B1 v.pre.length d1, .slice B2 v.build.length d2] 32)) = W at HBa R1 Q1 K1 K2 ⊢
      obtain ⟨_, _, x0, x1, x2, x3, x4⟩ := K1.out
      obtain ⟨_, _, y0, y1, y2, y3, y4⟩ := K2.out
      go_wp2_with fail
      refine (refNums_any _ _ _).mono ?_
      rintro e w' ⟨rfl, rfl⟩
      go_wp2
      go_ret
      exact ⟨by rw [HF.out]; rfl, HBa.out⟩
  · have e1 : ((u.a : Int) == (v.a : Int)) = false := by simp; omega
    have e1' : ((u.a : Int) != (v.a : Int)) = true := by simp; omega
    have HF := Lib.hid (cmpV_1 h1)
    clear h1
    go_enter Tryz.func17, Tryz.ntmps17
    go_upto_region 1 with (fail)
    generalize ((w.alloc (.cells #[.int .u64 (u.a : Int), .int .u64 (u.b : Int), .int .u64 (u.c : Int), .slice A1 u.pre.length c1, .slice A2 u.build.length c2] 32)).alloc (.cells #[.int .u64 (v.a : Int), .int .u64 (v.b : Int), .int .u64 (v.c : Int), .slice B1 v.pre.length d1, .slice B2 v.build.length d2] 32)) = W at HBa R1 Q1 K1 K2 ⊢
    obtain ⟨_, _, x0, x1, x2, x3, x4⟩ := K1.out
    obtain ⟨_, _, y0, y1, y2, y3, y4⟩ := K2.out
    go_wp2_with fail
    refine (refNums_any _ _ _).mono ?_
    rintro e w' ⟨rfl, rfl⟩
    go_wp2
    go_ret
    exact ⟨by rw [HF.out]; rfl, HBa.out⟩
end Go.Proofs.YtdbdeadcffpbfaaGreatDoor.Prec

namespace Go.Proofs.YtdbdeadcffpbfaaGreatDoor.Ident
open Go.RowKit Num

set_option maxRecDepth 100000 in
set_option maxHeartbeats 800000 in
theorem same_any (A : Option Addr) (a ca : Nat) (xs : List (List UInt8)) (B : Option Addr) (b cb : Nat) (ys : List (List UInt8)) (w : World) (hA : SRow w A a xs) (hB : SRow w B b ys) (ha : a ≤ maxLen) (hb : b ≤ maxLen) :
    Calls Tryz.prog 42 #[.slice A a ca, .slice B b cb] w fun e w' => e = .returned (.bool (sameB xs ys)) ∧ Below w.heap.size w w' := by
  unfold maxLen at ha hb
  have HA := Lib.hid hA
  have HB := Lib.hid hB
  have HLA := Lib.hid hA.1
  have HLB := Lib.hid hB.1
  clear hA hB
  by_cases hab : a = b
  · subst hab
    go_enter Tryz.func42, Tryz.ntmps42
    go_wp2
    go_loopw [5] (fun i W => ∃ k : Nat, k ≤ a ∧ i = .int .i64 k ∧ Hid (∀ j, j < k → xs.getD j [] = ys.getD j []) ∧ Hid (Below w.heap.size w W)) (fun i _ => a - (intOf i).toNat)
    case atStart => exact ⟨0, Nat.zero_le _, rfl, (fun j hj => by omega), Below.refl _ _⟩
    case round =>
      obtain ⟨k, hk, rfl, HD, HW⟩ := hrel
      by_cases hlt : k < a
      · obtain ⟨g1, o1, rfl, hg1, hc1⟩ := (HA.out.kept HW.out).2 (by omega)
        obtain ⟨g2, o2, rfl, hg2, hc2⟩ := (HB.out.kept HW.out).2 (by omega)
        have hx1 := hc1 k hlt
        have hx2 := hc2 k hlt
        clear hc1 hc2
        obtain ⟨s, hs⟩ : ∃ s, mk (xs.getD k []) = s := ⟨_, rfl⟩
        obtain ⟨t, ht⟩ : ∃ t, mk (ys.getD k []) = t := ⟨_, rfl⟩
        have HS : Hid (s = t → xs.getD k [] = ys.getD k []) := fun h => by rw [← hs, ← ht] at h; have := congrArg (fun z : ByteArray => z.data.toList) h; exact this
        have HS2 : Hid (s ≠ t → xs ≠ ys) := fun h h2 => h (by rw [← hs, ← ht, h2])
        rw [hs] at hx1
        rw [ht] at hx2
        clear hs ht
        by_cases hst : s = t
        · have HS3 := Lib.hid (HS.out hst)
          subst hst
          have hq : (s.toList == s.toList) = true := by simp
          have hq2 : (s.toList != s.toList) = false := by simp
          go_wp2
          go_still (by kernel_rfl)
          have HW2 := Lib.hid HW.out.drew
          go_wp2
          refine ⟨⟨k + 1, by omega, by go_num, (fun j hj => ?_), HW2.out⟩, by simp [intOf]; omega⟩
          rcases Nat.lt_or_ge j k with hj1 | hj1
          · exact HD.out j hj1
          · obtain rfl : j = k := by omega
            exact HS3.out
        · have HS3 := Lib.hid (HS2.out hst)
          have hq : (s.toList == t.toList) = false := by
            rw [Lib.toList_data, Lib.toList_data, beq_eq_false_iff_ne]
            exact fun h => hst (by have := congrArg mk h; exact this)
          have hq2 : (s.toList != t.toList) = true := by rw [bne, hq]; rfl
          clear hst
          go_wp2
          go_still (by kernel_rfl)
          have HW2 := Lib.hid HW.out.drew
          go_wp2
          go_ret
          exact ⟨by rw [sameB_no HS3.out]; rfl, HW2.out⟩
      · have HF : Hid (sameB xs ys = true) := (sameB_iff xs ys).2 (List.ext_getElem (by rw [HLA.out, HLB.out]) fun j h1 h2 => by
          have := HD.out j (by rw [HLA.out] at h1; omega)
          simpa [List.getD, List.getElem?_eq_getElem h1, List.getElem?_eq_getElem h2] using this)
        go_wp2
        go_ret
        exact ⟨by rw [HF.out]; rfl, HW.out⟩
  · have HF : Hid (sameB xs ys = false) := sameB_no fun h => hab (by rw [← HLA.out, ← HLB.out, h])
    have hq : ((a : Int) == (b : Int)) = false := by simp; omega
    have hq2 : ((a : Int) != (b : Int)) = true := by simp; omega
    go_enter Tryz.func42, Tryz.ntmps42
    go_wp2
    go_ret
    exact ⟨by rw [HF.out]; rfl, Below.refl _ _⟩
end Go.Proofs.YtdbdeadcffpbfaaGreatDoor.Ident

namespace Go.Proofs.YtdbdeadcffpbfaaGreatDoor.Ident
open Go.RowKit Num

theorem lead_no {x : List UInt8} {j : Nat} (hj : j < x.length) (h : isId (x.getD j 0) = false) : lead x ≠ x.length := by
  intro e
  have := lead_full.1 e (x.getD j 0) (by simp [List.getD, List.getElem?_eq_getElem hj])
  rw [h] at this; cases this
theorem lead_yes {x : List UInt8} (h : ∀ j, j < x.length → isId (x.getD j 0) = true) : lead x = x.length :=
  lead_stop x x.length (Nat.le_refl _) h (.inl rfl)
set_option maxRecDepth 100000 in
set_option maxHeartbeats 1600000 in
theorem ref_good_all (A : Option Addr) (n c : Nat) (xs : List (List UInt8)) (pre : Bool) (w : World) (hr : SRow w A n xs) (hn : n ≤ maxLen) (hs : ∀ x ∈ xs, x.length ≤ maxLen) :
    Calls Tryz.prog 41 #[.slice A n c, .bool pre] w fun e w' => e = .returned (.bool (goodFrom pre xs 0)) ∧ w = w' := by
  have HR := Lib.hid hr
  have HL := Lib.hid hr.1
  have HS := Lib.hid hs
  have HM := Lib.hid hn
  unfold maxLen at hn
  clear hr hs
  go_enter Tryz.func41, Tryz.ntmps41
  go_wp2
  go_loop [5] (fun i => ∃ k : Nat, k ≤ n ∧ i = .int .i64 k ∧ Hid (goodFrom pre (xs.drop k) k = goodFrom pre xs 0)) (fun i => n - (intOf i).toNat)
  case atStart => exact ⟨0, Nat.zero_le _, rfl, rfl⟩
  case round =>
    obtain ⟨k, hk, rfl, HG⟩ := hrel
    by_cases hlt : k < n
    · obtain ⟨b, o, rfl, hb, hcell⟩ := HR.out.2 (by omega)
      have hx := hcell k hlt
      clear hcell
      have HKL : Hid (k < xs.length) := by unfold Hid; rw [HL.out]; exact hlt
      have hlx : (xs.getD k []).length ≤ maxLen := HS.out _ (by have h := HKL.out; simp [List.getD, List.getElem?_eq_getElem h])
      have HST := Lib.hid (fun h1 h2 => goodFrom_step (pre := pre) HKL.out h1 h2)
      have HSP := Lib.hid (fun h => goodFrom_stop (pre := pre) HKL.out h)
      generalize xs.getD k [] = s at hx hlx HST HSP
      go_wp2_with fail
      refine (wrong_all (mk s) k pre _ (by rw [mk_size]; exact hlx) (by unfold maxLen; omega)).mono ?_
      rw [mk_list]
      rintro e w' ⟨rfl, rfl⟩
      have HFP : Hid (fault s k pre = 0 → s.length ≤ 255) := fun h => (fault_pos h).2.1
      generalize fault s k pre = f at HST HSP HFP
      by_cases hf0 : f = 0
      · subst hf0
        have HST2 := Lib.hid (HST.out rfl)
        clear HST
        have hz : (mk s).size ≤ 300 := Nat.le_trans (HFP.out rfl) (by omega)
        clear hlx HFP
        go_wp2
        go_loop [6] (fun j => ∃ m : Nat, m ≤ (mk s).size ∧ j = .int .i64 m ∧ Hid (∀ j, j < m → isId (s.getD j 0) = true)) (fun j => (mk s).size - (intOf j).toNat)
        case atStart => exact ⟨0, Nat.zero_le _, rfl, fun j hj => by omega⟩
        case round =>
          obtain ⟨m, hm, rfl, HD⟩ := hrel
          by_cases hml : m < (mk s).size
          · have HX := Lib.hid (at_text (mk s) m hml)
            have hbd := byteAt_bd s m
            have HI : Hid (isId (s.getD m 0) = idB (byteAt s m)) := (idB_at _).symm
            rw [mk_list] at HX
            rw [← HX.out] at hbd HI
            obtain ⟨hx0, hx1⟩ := hbd
            go_wp2_with fail
            refine (ref_byte_any _ _ hx0 hx1).mono ?_
            rintro e w' ⟨rfl, rfl⟩
            cases h1 : idB ((mk s)[m].toNat : Int)
            · have HF : Hid (goodFrom pre xs 0 = false) := by
                unfold Hid
                rw [← HG.out]
                exact HSP.out (.inr (lead_no hml (by rw [HI.out]; exact h1)))
              have H1 := Lib.hid h1; clear h1
              go_wp2
              go_ret
              exact ⟨by rw [HF.out]; rfl, rfl⟩
            · have HN : Hid (∀ j, j < m + 1 → isId (s.getD j 0) = true) := fun j hj => by
                rcases Nat.lt_or_ge j m with hj1 | hj1
                · exact HD.out j hj1
                · obtain rfl : j = m := by omega
                  rw [HI.out]; exact h1
              have H1 := Lib.hid h1; clear h1
              go_wp2
              exact ⟨⟨m + 1, by omega, by go_num, HN.out⟩, by simp [intOf]; omega⟩
          · have HF : Hid (goodFrom pre (xs.drop (k + 1)) (k + 1) = goodFrom pre xs 0) := by
              unfold Hid
              rw [← HG.out, ← HST2.out (lead_yes (fun j hj => HD.out j (by have : (mk s).size = s.length := rfl; omega)))]
            go_wp2
            exact ⟨⟨k + 1, by omega, by go_num, HF.out⟩, by simp [intOf]; omega⟩
      · have HF : Hid (goodFrom pre xs 0 = false) := by
          unfold Hid
          rw [← HG.out]
          exact HSP.out (.inl hf0)
        go_wp2
        go_ret
        exact ⟨by rw [HF.out]; rfl, rfl⟩
    · have HF : Hid (goodFrom pre xs 0 = true) := by
        unfold Hid
        rw [← HG.out, List.drop_eq_nil_of_le (by rw [HL.out]; omega), goodFrom]
      go_wp2
      go_ret
      exact ⟨by rw [HF.out]; rfl, rfl⟩
end Go.Proofs.YtdbdeadcffpbfaaGreatDoor.Ident

namespace Go.Proofs.YtdbdeadcffpbfaaGreatDoor.Semver
open Go.RowKit Num Ident

set_option maxRecDepth 100000 in
set_option maxHeartbeats 1600000 in
theorem refGood_all (v : Ver) (A : Option Addr) (c : Nat) (B : Option Addr) (d : Nat) (w : World) (hr1 : SRow w A v.pre.length v.pre) (hr2 : SRow w B v.build.length v.build) (hn1 : v.pre.length ≤ maxLen) (hn2 : v.build.length ≤ maxLen) (hs1 : ∀ x ∈ v.pre, x.length ≤ maxLen) (hs2 : ∀ x ∈ v.build, x.length ≤ maxLen) :
    Calls Tryz.prog 26 #[.agg #[.int .u64 (v.a : Int), .int .u64 (v.b : Int), .int .u64 (v.c : Int), .slice A v.pre.length c, .slice B v.build.length d]] w fun e w' => e = .returned (.bool (goodV v)) ∧ Below w.heap.size w w' := by
  have HBa : Hid (Below w.heap.size w (w.alloc (.cells #[.int .u64 (v.a : Int), .int .u64 (v.b : Int), .int .u64 (v.c : Int), .slice A v.pre.length c, .slice B v.build.length d] 32))) := (Below.refl _ _).alloc (Nat.le_refl _) _
  have R1 := Lib.hid (hr1.kept HBa.out)
  have R2 := Lib.hid (hr2.kept HBa.out)
  have S1 := Lib.hid hs1
  have S2 := Lib.hid hs2
  have N1 := Lib.hid hn1
  have N2 := Lib.hid hn2
  have HG : Hid (goodV v = (heldB v.a v.b v.c && (goodFrom true v.pre 0 && goodFrom false v.build 0))) := rfl
  clear hr1 hr2 hs1 hs2 hn1 hn2
  by_cases h1 : (v.a : Int) < 9223372036854775808
  · by_cases h2 : (v.b : Int) < 9223372036854775808
    · by_cases h3 : (v.c : Int) < 9223372036854775808
      · have HH := Lib.hid (held_all h1 h2 h3)
        go_enter Tryz.func26, Tryz.ntmps26
        go_wp2_with fail
        refine (ref_good_all _ _ _ v.pre true _ R1.out N1.out S1.out).mono ?_
        rintro e w' ⟨rfl, rfl⟩
        generalize goodFrom true v.pre 0 = g2 at HG ⊢
        cases g2
        · go_wp2
          go_ret
          exact ⟨by rw [HG.out, HH.out]; rfl, HBa.out⟩
        go_wp2_with fail
        refine (ref_good_all _ _ _ v.build false _ R2.out N2.out S2.out).mono ?_
        rintro e w' ⟨rfl, rfl⟩
        go_wp2
        go_ret
        exact ⟨by rw [HG.out, HH.out]; simp, HBa.out⟩
      · have HH := Lib.hid (held_not3 (x := v.a) (y := v.b) h3)
        go_enter Tryz.func26, Tryz.ntmps26
        go_wp2
        go_ret
        exact ⟨by rw [HG.out, HH.out]; rfl, HBa.out⟩
    · have HH := Lib.hid (held_not2 (x := v.a) (z := v.c) h2)
      go_enter Tryz.func26, Tryz.ntmps26
      go_wp2
      go_ret
      exact ⟨by rw [HG.out, HH.out]; rfl, HBa.out⟩
  · have HH := Lib.hid (held_not1 (y := v.b) (z := v.c) h1)
    go_enter Tryz.func26, Tryz.ntmps26
    go_wp2
    go_ret
    exact ⟨by rw [HG.out, HH.out]; rfl, HBa.out⟩
theorem refGood_any (v : Ver) (A : Option Addr) (c : Nat) (B : Option Addr) (d : Nat) (w : World) (hr1 : SRow w A v.pre.length v.pre) (hr2 : SRow w B v.build.length v.build) (hs1 : shortB v.pre = true) (hs2 : shortB v.build = true) :
    Calls Tryz.prog 26 #[.agg #[.int .u64 (v.a : Int), .int .u64 (v.b : Int), .int .u64 (v.c : Int), .slice A v.pre.length c, .slice B v.build.length d]] w fun e w' => e = .returned (.bool (goodV v)) ∧ Below w.heap.size w w' := by
  rw [shortB_iff] at hs1 hs2
  exact refGood_all v A c B d w hr1 hr2 (by unfold maxLen; omega) (by unfold maxLen; omega) (fun x hx => by have := hs1.2 x hx; unfold maxLen; omega) fun x hx => by have := hs2.2 x hx; unfold maxLen; omega
set_option maxRecDepth 100000 in
set_option maxHeartbeats 1600000 in
theorem refSame_any (u v : Ver) (A1 A2 B1 B2 : Option Addr) (c1 c2 d1 d2 : Nat) (w : World) (r1 : SRow w A1 u.pre.length u.pre) (r2 : SRow w A2 u.build.length u.build) (q1 : SRow w B1 v.pre.length v.pre) (q2 : SRow w B2 v.build.length v.build)
    (hn1 : u.pre.length ≤ maxLen) (hn2 : u.build.length ≤ maxLen) (hn3 : v.pre.length ≤ maxLen) (hn4 : v.build.length ≤ maxLen) :
    Calls Tryz.prog 27 #[.agg #[.int .u64 (u.a : Int), .int .u64 (u.b : Int), .int .u64 (u.c : Int), .slice A1 u.pre.length c1, .slice A2 u.build.length c2], .agg #[.int .u64 (v.a : Int), .int .u64 (v.b : Int), .int .u64 (v.c : Int), .slice B1 v.pre.length d1, .slice B2 v.build.length d2]] w fun e w' => e = .returned (.bool (sameV u v)) ∧ Below w.heap.size w w' := by
  have HBa : Hid (Below w.heap.size w ((w.alloc (.cells #[.int .u64 (u.a : Int), .int .u64 (u.b : Int), .int .u64 (u.c : Int), .slice A1 u.pre.length c1, .slice A2 u.build.length c2] 32)).alloc (.cells #[.int .u64 (v.a : Int), .int .u64 (v.b : Int), .int .u64 (v.c : Int), .slice B1 v.pre.length d1, .slice B2 v.build.length d2] 32))) := ((Below.refl _ _).alloc (Nat.le_refl _) _).alloc (by simp) _
  have R1 := Lib.hid (r1.kept HBa.out)
  have R2 := Lib.hid (r2.kept HBa.out)
  have Q1 := Lib.hid (q1.kept HBa.out)
  have Q2 := Lib.hid (q2.kept HBa.out)
  have N1 := Lib.hid hn1
  have N2 := Lib.hid hn2
  have N3 := Lib.hid hn3
  have N4 := Lib.hid hn4
  have K1 : Hid (At5 ((w.alloc (.cells #[.int .u64 (u.a : Int), .int .u64 (u.b : Int), .int .u64 (u.c : Int), .slice A1 u.pre.length c1, .slice A2 u.build.length c2] 32)).alloc (.cells #[.int .u64 (v.a : Int), .int .u64 (v.b : Int), .int .u64 (v.c : Int), .slice B1 v.pre.length d1, .slice B2 v.build.length d2] 32)) w.heap.size (.int .u64 (u.a : Int)) (.int .u64 (u.b : Int)) (.int .u64 (u.c : Int)) (.slice A1 u.pre.length c1) (.slice A2 u.build.length c2)) := (At5.new w 32 _ _ _ _ _).kept ((Below.refl _ _).alloc (Nat.le_refl _) _) (by simp)
  have K2 : Hid (At5 ((w.alloc (.cells #[.int .u64 (u.a : Int), .int .u64 (u.b : Int), .int .u64 (u.c : Int), .slice A1 u.pre.length c1, .slice A2 u.build.length c2] 32)).alloc (.cells #[.int .u64 (v.a : Int), .int .u64 (v.b : Int), .int .u64 (v.c : Int), .slice B1 v.pre.length d1, .slice B2 v.build.length d2] 32)) (w.heap.size + 1) (.int .u64 (v.a : Int)) (.int .u64 (v.b : Int)) (.int .u64 (v.c : Int)) (.slice B1 v.pre.length d1) (.slice B2 v.build.length d2)) := by
    have := At5.new (w.alloc (.cells #[.int .u64 (u.a : Int), .int .u64 (u.b : Int), .int .u64 (u.c : Int), .slice A1 u.pre.length c1, .slice A2 u.build.length c2] 32)) 32 (.int .u64 (v.a : Int)) (.int .u64 (v.b : Int)) (.int .u64 (v.c : Int)) (.slice B1 v.pre.length d1) (.slice B2 v.build.length d2)
    rw [size_alloc] at this; exact this
  clear r1 r2 q1 q2 hn1 hn2 hn3 hn4
  by_cases h1 : u.a = v.a
  · have e1 : ((u.a : Int) == (v.a : Int)) = true := by simp [h1]
    by_cases h2 : u.b = v.b
    · have e2 : ((u.b : Int) == (v.b : Int)) = true := by simp [h2]
      by_cases h3 : u.c = v.c
      · have e3 : ((u.c : Int) == (v.c : Int)) = true := by simp [h3]
        have HF : Hid (sameV u v = (sameB u.pre v.pre && sameB u.build v.build)) := by unfold Hid sameV; rw [decide_eq_true ⟨h1, h2, h3⟩]; rfl
        clear h1 h2 h3
        go_enter Tryz.func27, Tryz.ntmps27
        go_upto_region 1 with (fail)
        generalize ((w.alloc (.cells #[.int .u64 (u.a : Int), .int .u64 (u.b : Int), .int .u64 (u.c : Int), .slice A1 u.pre.length c1, .slice A2 u.build.length c2] 32)).alloc (.cells #[.int .u64 (v.a : Int), .int .u64 (v.b : Int), .int .u64 (v.c : Int), .slice B1 v.pre.length d1, .slice B2 v.build.length d2] 32)) = W at HBa R1 R2 Q1 Q2 K1 K2 ⊢
        have hz := K2.out.1
        have hzw := HBa.out.size
        obtain ⟨_, _, x0, x1, x2, x3, x4⟩ := K1.out
        obtain ⟨_, _, y0, y1, y2, y3, y4⟩ := K2.out
        go_wp2_with fail
        refine (same_any _ _ _ u.pre _ _ _ v.pre _ R1.out Q1.out N1.out N3.out).mono ?_
        rintro e w1 ⟨rfl, hb1⟩
        have L1 := Lib.hid (K1.out.kept hb1 (by omega))
        have L2 := Lib.hid (K2.out.kept hb1 (by omega))
        have R2' := Lib.hid (R2.out.kept hb1)
        have Q2' := Lib.hid (Q2.out.kept hb1)
        have HB1 := Lib.hid (HBa.out.trans (hb1.mono hzw))
        have hz1 := HB1.out.size
        clear hb1 x0 x1 x2 x3 x4 y0 y1 y2 y3 y4
        obtain ⟨_, _, x0, x1, x2, x3, x4⟩ := L1.out
        obtain ⟨_, _, y0, y1, y2, y3, y4⟩ := L2.out
        generalize sameB u.pre v.pre = g1 at HF ⊢
        cases g1
        · go_wp2
          go_ret
          exact ⟨by rw [HF.out]; rfl, HB1.out⟩
        go_wp2_with fail
        refine (same_any _ _ _ u.build _ _ _ v.build _ R2'.out Q2'.out N2.out N4.out).mono ?_
        rintro e w2 ⟨rfl, hb2⟩
        have HB2 := Lib.hid (HB1.out.trans (hb2.mono hz1))
        clear hb2 x0 x1 x2 x3 x4 y0 y1 y2 y3 y4
        go_wp2
        go_ret
        exact ⟨by rw [HF.out]; simp, HB2.out⟩
      · have e3 : ((u.c : Int) == (v.c : Int)) = false := by simp; omega
        have HF := Lib.hid (sameV_no (u := u) (v := v) fun h => h3 h.2.2)
        clear h1 h2 h3
        go_enter Tryz.func27, Tryz.ntmps27
        go_wp2
        go_ret
        exact ⟨by rw [HF.out]; rfl, HBa.out⟩
    · have e2 : ((u.b : Int) == (v.b : Int)) = false := by simp; omega
      have HF := Lib.hid (sameV_no (u := u) (v := v) fun h => h2 h.2.1)
      clear h1 h2
      go_enter Tryz.func27, Tryz.ntmps27
      go_wp2
      go_ret
      exact ⟨by rw [HF.out]; rfl, HBa.out⟩
  · have e1 : ((u.a : Int) == (v.a : Int)) = false := by simp; omega
    have HF := Lib.hid (sameV_no (u := u) (v := v) fun h => h1 h.1)
    clear h1
    go_enter Tryz.func27, Tryz.ntmps27
    go_wp2
    go_ret
    exact ⟨by rw [HF.out]; rfl, HBa.out⟩
end Go.Proofs.YtdbdeadcffpbfaaGreatDoor.Semver

namespace Go.Proofs.YtdbdeadcffpbfaaGreatDoor.Span
open Go.RowKit Num Ident Semver Prec

set_option maxRecDepth 100000 in
set_option maxHeartbeats 3200000 in
theorem refRight_any (r : RCut) (w : World) (h : Lies w r) :
    Calls Tryz.prog 14 #[.agg #[.int .i64 r.kind, .int .u64 (r.v.a : Int), .int .u64 (r.v.b : Int), .int .u64 (r.v.c : Int), .slice r.A r.v.pre.length r.c, .slice r.B r.v.build.length r.d]] w fun e w' => e = .returned (.bool (right r.cut)) ∧ Below w.heap.size w w' := by
  have HBa : Hid (Below w.heap.size w (w.alloc (.cells #[.int .i64 r.kind, .int .u64 (r.v.a : Int), .int .u64 (r.v.b : Int), .int .u64 (r.v.c : Int), .slice r.A r.v.pre.length r.c, .slice r.B r.v.build.length r.d] 35))) := (Below.refl _ _).alloc (Nat.le_refl _) _
  have HL := Lib.hid (h.kept HBa.out)
  have K0 : Hid (At6B (w.alloc (.cells #[.int .i64 r.kind, .int .u64 (r.v.a : Int), .int .u64 (r.v.b : Int), .int .u64 (r.v.c : Int), .slice r.A r.v.pre.length r.c, .slice r.B r.v.build.length r.d] 35)) w.heap.size (.int .i64 r.kind) (.int .u64 (r.v.a : Int)) (.int .u64 (r.v.b : Int)) (.int .u64 (r.v.c : Int)) (.slice r.A r.v.pre.length r.c) (.slice r.B r.v.build.length r.d)) := At6B.new w _ _ _ _ _ _ _
  clear h
  by_cases h0 : r.kind = 0 ∨ r.kind = 3
  · have HF : Hid (right r.cut = sameV r.v noVer) := right_ends h0
    have e1 : (r.kind == 1) = false := by simp; omega
    have e2 : (r.kind == 2) = false := by simp; omega
    have hs : (r.kind == 0) = true ∨ ((r.kind == 0) = false ∧ (r.kind == 3) = true) := by
      rcases h0 with h0 | h0
      · left; simp [h0]
      · right; simp [h0]
    clear h0
    rcases hs with e0 | ⟨e0, e3⟩
    all_goals
      go_enter Tryz.func14, Tryz.ntmps14
      go_upto_region 1 with (fail)
      generalize (w.alloc (.cells #[.int .i64 r.kind, .int .u64 (r.v.a : Int), .int .u64 (r.v.b : Int), .int .u64 (r.v.c : Int), .slice r.A r.v.pre.length r.c, .slice r.B r.v.build.length r.d] 35)) = W at HBa HL K0 ⊢
      obtain ⟨hz, _, x0, x1, x2, x3, x4, x5⟩ := K0.out
      go_wp2_with fail
      refine (refSame_any r.v noVer r.A r.B none none r.c r.d 0 0 _ HL.out.pre HL.out.build (SRow.none_ _ _) (SRow.none_ _ _) HL.out.fpre.1 HL.out.fbuild.1 (Nat.zero_le _) (Nat.zero_le _)).mono ?_
      rintro e w1 ⟨rfl, hb1⟩
      have B1 := Lib.hid (HBa.out.trans (hb1.mono HBa.out.size))
      clear hb1 x0 x1 x2 x3 x4 x5
      go_wp2
      go_ret
      exact ⟨by rw [HF.out]; rfl, B1.out⟩
  have e0 : (r.kind == 0) = false := by simp; omega
  have e3 : (r.kind == 3) = false := by simp; omega
  by_cases h1 : r.kind = 1 ∨ r.kind = 2
  · have HF : Hid (right r.cut = (goodV r.v && decide (r.v.build.length = 0))) := right_ver h1
    have hs : (r.kind == 1) = true ∨ ((r.kind == 1) = false ∧ (r.kind == 2) = true) := by
      rcases h1 with h1 | h1
      · left; simp [h1]
      · right; simp [h1]
    clear h0 h1
    rcases hs with e1 | ⟨e1, e2⟩
    all_goals
      go_enter Tryz.func14, Tryz.ntmps14
      go_upto_region 1 with (fail)
      generalize (w.alloc (.cells #[.int .i64 r.kind, .int .u64 (r.v.a : Int), .int .u64 (r.v.b : Int), .int .u64 (r.v.c : Int), .slice r.A r.v.pre.length r.c, .slice r.B r.v.build.length r.d] 35)) = W at HBa HL K0 ⊢
      obtain ⟨hz, _, x0, x1, x2, x3, x4, x5⟩ := K0.out
      go_wp2_with fail
      refine (refGood_all r.v r.A r.c r.B r.d _ HL.out.pre HL.out.build HL.out.fpre.1 HL.out.fbuild.1 HL.out.fpre.2 HL.out.fbuild.2).mono ?_
      rintro e w1 ⟨rfl, hb1⟩
      have B1 := Lib.hid (HBa.out.trans (hb1.mono HBa.out.size))
      have K1 := Lib.hid (K0.out.kept hb1 hz)
      clear hb1 x0 x1 x2 x3 x4 x5 hz
      obtain ⟨hz, _, x0, x1, x2, x3, x4, x5⟩ := K1.out
      generalize goodV r.v = g at HF ⊢
      cases g
      · go_wp2
        go_ret
        exact ⟨by rw [HF.out]; rfl, B1.out⟩
      · by_cases hb : r.v.build.length = 0
        · have HF2 : Hid (right r.cut = true) := by have := HF.out; rw [this, decide_eq_true hb]; rfl
          have eb : ((r.v.build.length : Int) == 0) = true := by rw [beq_iff_eq]; omega
          clear HF hb
          go_wp2
          go_ret
          exact ⟨by rw [HF2.out]; rfl, B1.out⟩
        · have HF2 : Hid (right r.cut = false) := by have := HF.out; rw [this, decide_eq_false hb]; rfl
          have eb : ((r.v.build.length : Int) == 0) = false := by rw [beq_eq_false_iff_ne]; omega
          clear HF hb
          go_wp2
          go_ret
          exact ⟨by rw [HF2.out]; rfl, B1.out⟩
  · have HF : Hid (right r.cut = false) := right_none h0 h1
    have e1 : (r.kind == 1) = false := by simp; omega
    have e2 : (r.kind == 2) = false := by simp; omega
    clear h0 h1
    go_enter Tryz.func14, Tryz.ntmps14
    go_upto_region 1 with (fail)
    generalize (w.alloc (.cells #[.int .i64 r.kind, .int .u64 (r.v.a : Int), .int .u64 (r.v.b : Int), .int .u64 (r.v.c : Int), .slice r.A r.v.pre.length r.c, .slice r.B r.v.build.length r.d] 35)) = W at HBa HL K0 ⊢
    obtain ⟨hz, _, x0, x1, x2, x3, x4, x5⟩ := K0.out
    go_wp2
    go_ret
    exact ⟨by rw [HF.out]; rfl, HBa.out⟩
end Go.Proofs.YtdbdeadcffpbfaaGreatDoor.Span

namespace Go.Proofs.YtdbdeadcffpbfaaGreatDoor.Span
open Go.RowKit Num Ident Semver Prec

theorem good_short (pre : Bool) : ∀ (xs : List (List UInt8)) (i : Nat), goodFrom pre xs i = true → ∀ x ∈ xs, x.length ≤ 255
  | [], _, _, x, hx => by cases hx
  | y :: r, i, h, x, hx => by
    rw [goodFrom] at h
    simp only [Bool.and_eq_true, beq_iff_eq] at h
    rcases List.mem_cons.1 hx with rfl | hx
    · exact (fault_pos h.1.1).2.1
    · exact good_short pre r (i + 1) h.2 x hx
theorem right_short {c : Cut} (h : right c = true) : ∀ x ∈ c.v.pre, x.length ≤ 1000 := by
  by_cases h1 : c.kind = 0 ∨ c.kind = 3
  · rw [right_ends h1] at h
    rw [sameV_none h]; intro x hx; cases hx
  · by_cases h2 : c.kind = 1 ∨ c.kind = 2
    · rw [right_ver h2, Bool.and_eq_true] at h
      have hg := h.1
      unfold goodV at hg
      rw [Bool.and_eq_true, Bool.and_eq_true] at hg
      intro x hx
      exact Nat.le_trans (good_short true c.v.pre 0 hg.2.1 x hx) (by omega)
    · rw [right_none h1 h2] at h; cases h
theorem cmpC_no {a b : Cut} (h : ¬ (right a = true ∧ right b = true ∧ ofVer a = true ∧ ofVer b = true)) : cmpC a b = ordI a.kind b.kind := by
  unfold cmpC stand
  by_cases h1 : right a = true ∧ right b = true
  · rw [if_pos h1, if_neg (fun k => h ⟨h1.1, h1.2, k.1, k.2.1⟩)]
  · rw [if_neg h1]
theorem cmpC_v0 {a b : Cut} (h : cmpV a.v b.v = 0) : cmpC a b = ordI a.kind b.kind := by
  unfold cmpC stand
  by_cases h1 : right a = true ∧ right b = true
  · rw [if_pos h1, if_neg (fun k => k.2.2 h)]
  · rw [if_neg h1]
theorem cmpC_v {a b : Cut} (h : right a = true ∧ right b = true ∧ ofVer a = true ∧ ofVer b = true) (h0 : cmpV a.v b.v ≠ 0) : cmpC a b = cmpV a.v b.v := by
  unfold cmpC stand
  rw [if_pos ⟨h.1, h.2.1⟩, if_pos ⟨h.2.2.1, h.2.2.2, h0⟩]

set_option maxRecDepth 100000 in
set_option maxHeartbeats 6400000 in
theorem refCompareC_any (r s : RCut) (w : World) (h1 : Lies w r) (h2 : Lies w s) :
    Calls Tryz.prog 19 #[.agg #[.int .i64 r.kind, .int .u64 (r.v.a : Int), .int .u64 (r.v.b : Int), .int .u64 (r.v.c : Int), .slice r.A r.v.pre.length r.c, .slice r.B r.v.build.length r.d], .agg #[.int .i64 s.kind, .int .u64 (s.v.a : Int), .int .u64 (s.v.b : Int), .int .u64 (s.v.c : Int), .slice s.A s.v.pre.length s.c, .slice s.B s.v.build.length s.d]] w fun e w' => e = .returned (.int .i64 (cmpC r.cut s.cut)) ∧ Below w.heap.size w w' := by
  have B0 : Hid (Below w.heap.size w ((w.alloc (.cells #[.int .i64 r.kind, .int .u64 (r.v.a : Int), .int .u64 (r.v.b : Int), .int .u64 (r.v.c : Int), .slice r.A r.v.pre.length r.c, .slice r.B r.v.build.length r.d] 35)).alloc (.cells #[.int .i64 s.kind, .int .u64 (s.v.a : Int), .int .u64 (s.v.b : Int), .int .u64 (s.v.c : Int), .slice s.A s.v.pre.length s.c, .slice s.B s.v.build.length s.d] 35))) := ((Below.refl _ _).alloc (Nat.le_refl _) _).alloc (by simp) _
  have L0 := Lib.hid (h1.kept B0.out)
  have M0 := Lib.hid (h2.kept B0.out)
  have K0 : Hid (At6B ((w.alloc (.cells #[.int .i64 r.kind, .int .u64 (r.v.a : Int), .int .u64 (r.v.b : Int), .int .u64 (r.v.c : Int), .slice r.A r.v.pre.length r.c, .slice r.B r.v.build.length r.d] 35)).alloc (.cells #[.int .i64 s.kind, .int .u64 (s.v.a : Int), .int .u64 (s.v.b : Int), .int .u64 (s.v.c : Int), .slice s.A s.v.pre.length s.c, .slice s.B s.v.build.length s.d] 35)) w.heap.size (.int .i64 r.kind) (.int .u64 (r.v.a : Int)) (.int .u64 (r.v.b : Int)) (.int .u64 (r.v.c : Int)) (.slice r.A r.v.pre.length r.c) (.slice r.B r.v.build.length r.d)) := (At6B.new w _ _ _ _ _ _ _).kept ((Below.refl _ _).alloc (Nat.le_refl _) _) (by simp)
  have J0 : Hid (At6B ((w.alloc (.cells #[.int .i64 r.kind, .int .u64 (r.v.a : Int), .int .u64 (r.v.b : Int), .int .u64 (r.v.c : Int), .slice r.A r.v.pre.length r.c, .slice r.B r.v.build.length r.d] 35)).alloc (.cells #[.int .i64 s.kind, .int .u64 (s.v.a : Int), .int .u64 (s.v.b : Int), .int .u64 (s.v.c : Int), .slice s.A s.v.pre.length s.c, .slice s.B s.v.build.length s.d] 35)) (w.heap.size + 1) (.int .i64 s.kind) (.int .u64 (s.v.a : Int)) (.int .u64 (s.v.b : Int)) (.int .u64 (s.v.c : Int)) (.slice s.A s.v.pre.length s.c) (.slice s.B s.v.build.length s.d)) := by
    have := At6B.new (w.alloc (.cells #[.int .i64 r.kind, .int .u64 (r.v.a : Int), .int .u64 (r.v.b : Int), .int .u64 (r.v.c : Int), .slice r.A r.v.pre.length r.c, .slice r.B r.v.build.length r.d] 35)) 35 (.int .i64 s.kind) (.int .u64 (s.v.a : Int)) (.int .u64 (s.v.b : Int)) (.int .u64 (s.v.c : Int)) (.slice s.A s.v.pre.length s.c) (.slice s.B s.v.build.length s.d)
    rw [size_alloc] at this; exact this
  clear h1 h2
  go_enter Tryz.func19, Tryz.ntmps19
  go_upto_region 1 with (fail)
  generalize ((w.alloc (.cells #[.int .i64 r.kind, .int .u64 (r.v.a : Int), .int .u64 (r.v.b : Int), .int .u64 (r.v.c : Int), .slice r.A r.v.pre.length r.c, .slice r.B r.v.build.length r.d] 35)).alloc (.cells #[.int .i64 s.kind, .int .u64 (s.v.a : Int), .int .u64 (s.v.b : Int), .int .u64 (s.v.c : Int), .slice s.A s.v.pre.length s.c, .slice s.B s.v.build.length s.d] 35)) = W at B0 L0 M0 K0 J0 ⊢
  obtain ⟨hz, _, x0, x1, x2, x3, x4, x5⟩ := K0.out
  obtain ⟨hy, _, y0, y1, y2, y3, y4, y5⟩ := J0.out
  go_wp2_with fail
  refine (refRight_any r _ L0.out).mono ?_
  rintro e w1 ⟨rfl, hb⟩
  have K1 := Lib.hid (K0.out.kept hb hz)
  have J1 := Lib.hid (J0.out.kept hb hy)
  have L1 := Lib.hid (L0.out.kept hb)
  have M1 := Lib.hid (M0.out.kept hb)
  have B1 := Lib.hid (B0.out.trans (hb.mono B0.out.size))
  clear hb hz hy x0 x1 x2 x3 x4 x5 y0 y1 y2 y3 y4 y5
  obtain ⟨hz, _, x0, x1, x2, x3, x4, x5⟩ := K1.out
  obtain ⟨hy, _, y0, y1, y2, y3, y4, y5⟩ := J1.out
  cases g1 : right r.cut
  · have HF : Hid (cmpC r.cut s.cut = ordI r.kind s.kind) := cmpC_no (by rw [g1]; rintro ⟨h, _⟩; cases h)
    clear g1
    rcases Int.lt_trichotomy r.kind s.kind with hk | hk | hk
    · have HF2 := Lib.hid (HF.out.trans (ordI_lt hk))
      go_wp2
      go_ret
      exact ⟨by rw [HF2.out]; rfl, B1.out⟩
    · have HF2 := Lib.hid (HF.out.trans (ordI_eq hk))
      have n1 : decide (r.kind < s.kind) = false := by simp; omega
      have n2 : decide (s.kind < r.kind) = false := by simp; omega
      clear hk
      go_wp2
      go_ret
      exact ⟨by rw [HF2.out]; rfl, B1.out⟩
    · have HF2 := Lib.hid (HF.out.trans (ordI_gt hk))
      have n1 : decide (r.kind < s.kind) = false := by simp; omega
      go_wp2
      go_ret
      exact ⟨by rw [HF2.out]; rfl, B1.out⟩
  have G1 := Lib.hid g1
  clear g1
  go_wp2_with fail
  refine (refRight_any s _ M1.out).mono ?_
  rintro e w2 ⟨rfl, hb⟩
  have K2 := Lib.hid (K1.out.kept hb hz)
  have J2 := Lib.hid (J1.out.kept hb hy)
  have L2 := Lib.hid (L1.out.kept hb)
  have M2 := Lib.hid (M1.out.kept hb)
  have B2 := Lib.hid (B1.out.trans (hb.mono B1.out.size))
  clear hb hz hy x0 x1 x2 x3 x4 x5 y0 y1 y2 y3 y4 y5
  obtain ⟨hz, _, x0, x1, x2, x3, x4, x5⟩ := K2.out
  obtain ⟨hy, _, y0, y1, y2, y3, y4, y5⟩ := J2.out
  cases g2 : right s.cut
  · have HF : Hid (cmpC r.cut s.cut = ordI r.kind s.kind) := cmpC_no (by rw [g2]; rintro ⟨_, h, _⟩; cases h)
    clear g2
    rcases Int.lt_trichotomy r.kind s.kind with hk | hk | hk
    · have HF2 := Lib.hid (HF.out.trans (ordI_lt hk))
      go_wp2
      go_ret
      exact ⟨by rw [HF2.out]; rfl, B2.out⟩
    · have HF2 := Lib.hid (HF.out.trans (ordI_eq hk))
      have n1 : decide (r.kind < s.kind) = false := by simp; omega
      have n2 : decide (s.kind < r.kind) = false := by simp; omega
      clear hk
      go_wp2
      go_ret
      exact ⟨by rw [HF2.out]; rfl, B2.out⟩
    · have HF2 := Lib.hid (HF.out.trans (ordI_gt hk))
      have n1 : decide (r.kind < s.kind) = false := by simp; omega
      go_wp2
      go_ret
      exact ⟨by rw [HF2.out]; rfl, B2.out⟩
  have G2 := Lib.hid g2
  clear g2
  by_cases o1 : r.kind = 1 ∨ r.kind = 2
  · by_cases o2 : s.kind = 1 ∨ s.kind = 2
    · have HO : Hid (right r.cut = true ∧ right s.cut = true ∧ ofVer r.cut = true ∧ ofVer s.cut = true) := ⟨G1.out, G2.out, (ofVer_iff _).2 o1, (ofVer_iff _).2 o2⟩
      have hs1 : (r.kind == 1) = true ∨ ((r.kind == 1) = false ∧ (r.kind == 2) = true) := by
        rcases o1 with o1 | o1
        · left; simp [o1]
        · right; simp [o1]
      have hs2 : (s.kind == 1) = true ∨ ((s.kind == 1) = false ∧ (s.kind == 2) = true) := by
        rcases o2 with o2 | o2
        · left; simp [o2]
        · right; simp [o2]
      clear o1 o2
      rcases hs1 with p1 | ⟨p1, p1'⟩ <;> rcases hs2 with p2 | ⟨p2, p2'⟩
      all_goals
        go_wp2_with fail
        refine (Prec.refCompare_any r.v s.v _ _ _ _ _ _ _ _ _ L2.out.pre M2.out.pre L2.out.fpre.1 M2.out.fpre.1 (right_short G1.out) (right_short G2.out)).mono ?_
        rintro e w3 ⟨rfl, hb⟩
        have K3 := Lib.hid (K2.out.kept hb hz)
        have J3 := Lib.hid (J2.out.kept hb hy)
        have L3 := Lib.hid (L2.out.kept hb)
        have M3 := Lib.hid (M2.out.kept hb)
        have B3 := Lib.hid (B2.out.trans (hb.mono B2.out.size))
        clear hb hz hy x0 x1 x2 x3 x4 x5 y0 y1 y2 y3 y4 y5
        obtain ⟨hz, _, x0, x1, x2, x3, x4, x5⟩ := K3.out
        obtain ⟨hy, _, y0, y1, y2, y3, y4, y5⟩ := J3.out
        by_cases h0 : cmpV r.v s.v = 0
        · have HF : Hid (cmpC r.cut s.cut = ordI r.kind s.kind) := cmpC_v0 h0
          rw [h0]
          clear h0
          rcases Int.lt_trichotomy r.kind s.kind with hk | hk | hk
          · have HF2 := Lib.hid (HF.out.trans (ordI_lt hk))
            go_wp2
            go_ret
            exact ⟨by rw [HF2.out]; rfl, B3.out⟩
          · have HF2 := Lib.hid (HF.out.trans (ordI_eq hk))
            have n1 : decide (r.kind < s.kind) = false := by simp; omega
            have n2 : decide (s.kind < r.kind) = false := by simp; omega
            clear hk
            go_wp2
            go_ret
            exact ⟨by rw [HF2.out]; rfl, B3.out⟩
          · have HF2 := Lib.hid (HF.out.trans (ordI_gt hk))
            have n1 : decide (r.kind < s.kind) = false := by simp; omega
            go_wp2
            go_ret
            exact ⟨by rw [HF2.out]; rfl, B3.out⟩
        · have HF : Hid (cmpC r.cut s.cut = cmpV r.v s.v) := cmpC_v HO.out h0
          generalize cmpV r.v s.v = cc at h0 HF ⊢
          have hn : (cc == 0) = false := by simp [h0]
          have hn2 : (cc != 0) = true := by simp [h0]
          clear h0
          go_wp2
          go_ret
          exact ⟨by rw [HF.out]; rfl, B3.out⟩
    · have HF : Hid (cmpC r.cut s.cut = ordI r.kind s.kind) := cmpC_no (by rintro ⟨_, _, _, h⟩; exact o2 ((ofVer_iff _).1 h))
      have hs1 : (r.kind == 1) = true ∨ ((r.kind == 1) = false ∧ (r.kind == 2) = true) := by
        rcases o1 with o1 | o1
        · left; simp [o1]
        · right; simp [o1]
      have p2 : (s.kind == 1) = false := by simp; omega
      have p2' : (s.kind == 2) = false := by simp; omega
      clear o1 o2
      rcases hs1 with p1 | ⟨p1, p1'⟩
      all_goals
        rcases Int.lt_trichotomy r.kind s.kind with hk | hk | hk
        · have HF2 := Lib.hid (HF.out.trans (ordI_lt hk))
          go_wp2
          go_ret
          exact ⟨by rw [HF2.out]; rfl, B2.out⟩
        · have HF2 := Lib.hid (HF.out.trans (ordI_eq hk))
          have n1 : decide (r.kind < s.kind) = false := by simp; omega
          have n2 : decide (s.kind < r.kind) = false := by simp; omega
          clear hk
          go_wp2
          go_ret
          exact ⟨by rw [HF2.out]; rfl, B2.out⟩
        · have HF2 := Lib.hid (HF.out.trans (ordI_gt hk))
          have n1 : decide (r.kind < s.kind) = false := by simp; omega
          go_wp2
          go_ret
          exact ⟨by rw [HF2.out]; rfl, B2.out⟩
  · have HF : Hid (cmpC r.cut s.cut = ordI r.kind s.kind) := cmpC_no (by rintro ⟨_, _, h, _⟩; exact o1 ((ofVer_iff _).1 h))
    have p1 : (r.kind == 1) = false := by simp; omega
    have p1' : (r.kind == 2) = false := by simp; omega
    clear o1
    rcases Int.lt_trichotomy r.kind s.kind with hk | hk | hk
    · have HF2 := Lib.hid (HF.out.trans (ordI_lt hk))
      go_wp2
      go_ret
      exact ⟨by rw [HF2.out]; rfl, B2.out⟩
    · have HF2 := Lib.hid (HF.out.trans (ordI_eq hk))
      have n1 : decide (r.kind < s.kind) = false := by simp; omega
      have n2 : decide (s.kind < r.kind) = false := by simp; omega
      clear hk
      go_wp2
      go_ret
      exact ⟨by rw [HF2.out]; rfl, B2.out⟩
    · have HF2 := Lib.hid (HF.out.trans (ordI_gt hk))
      have n1 : decide (r.kind < s.kind) = false := by simp; omega
      go_wp2
      go_ret
      exact ⟨by rw [HF2.out]; rfl, B2.out⟩
end Go.Proofs.YtdbdeadcffpbfaaGreatDoor.Span
