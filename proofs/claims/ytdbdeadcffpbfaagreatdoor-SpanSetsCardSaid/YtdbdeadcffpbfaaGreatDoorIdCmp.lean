/-
  How two texts stand as identifiers (ident.Compare), for any texts. Condition: the texts' lengths are those that the form allows.
-/
import Derived.Test.YtdbdeadcffpbfaaGreatDoorIdNumeric
import Derived.Test.YtdbdeadcffpbfaaGreatDoorNumCmp
import Derived.Test.YtdbdeadcffpbfaaGreatDoorIdMem
import Derived.Test.YtdbdeadcffpbfaaGreatDoorShelfTrim
namespace Go.Proofs.YtdbdeadcffpbfaaGreatDoor.Ident
open Go.RowKit Num

theorem trim_le (l : List UInt8) : (Lib.trimLeftB l 48).length ≤ l.length := (List.dropWhile_sublist _).length_le

set_option maxRecDepth 100000 in
set_option maxHeartbeats 800000 in
theorem numeral_any (s : ByteArray) (w : World) :
    Calls Tryz.prog 94 #[.string s] w fun e w' => e = .returned (.string (mk (numeral s.data.toList))) ∧ w = w' := by
  obtain ⟨t, ht⟩ : ∃ t : ByteArray, (⟨(Lib.trimLeftB s.data.toList 48).toArray⟩ : ByteArray) = t := ⟨_, rfl⟩
  have HT := Lib.hid ht
  have hz : t.size = (Lib.trimLeftB s.data.toList 48).length := by rw [← ht]; rfl
  have HK : Hid (∀ W, Calls Tryz.prog 98 #[.string s, .string ⟨#[48]⟩] W fun e w' => e = .returned (.string t) ∧ w' = W) := fun W => by
    have := Tryz.strings_TrimLeft_one s 48 (by decide) W
    rw [ht] at this
    exact this
  clear ht
  by_cases h0 : t.size = 0
  · have HF : Hid (numeral s.data.toList = [48]) := by unfold Hid numeral; rw [if_pos (by rw [← hz]; exact h0)]
    have hem := (empty_iff t).2 h0
    clear h0 hz
    go_enter Tryz.func94, Tryz.ntmps94
    go_wp2_with fail
    refine (HK.out _).mono ?_
    rintro e w' ⟨rfl, rfl⟩
    go_wp2
    go_ret
    exact ⟨by rw [HF.out]; rfl, rfl⟩
  · have HF : Hid (numeral s.data.toList = Lib.trimLeftB s.data.toList 48) := by unfold Hid numeral; rw [if_neg (by rw [← hz]; exact h0)]
    have hem := (empty_no t).2 h0
    clear h0 hz
    go_enter Tryz.func94, Tryz.ntmps94
    go_wp2_with fail
    refine (HK.out _).mono ?_
    rintro e w' ⟨rfl, rfl⟩
    go_wp2
    go_ret
    exact ⟨by rw [HF.out, ← HT.out]; rfl, rfl⟩

theorem numeral_le (l : List UInt8) (h : 0 < l.length) : (numeral l).length ≤ l.length := by
  unfold numeral
  split
  · simp; omega
  · exact trim_le l

set_option maxRecDepth 100000 in
set_option maxHeartbeats 800000 in
theorem numbers_anyD (s t : ByteArray) (w : World) (hs : s.size ≤ maxLen) (ht : t.size ≤ maxLen) (ha : numeric s.data.toList = true) (hb : numeric t.data.toList = true) :
    Calls Tryz.prog 87 #[.string s, .string t] w fun e w' => e = .returned (.int .i64 (cmpId s.data.toList t.data.toList)) ∧ BelowD w.heap.size w w' := by
  have HF : Hid (cmpId s.data.toList t.data.toList = if ordN (val s.data.toList) (val t.data.toList) = 0 then ordN s.data.toList.length t.data.toList.length else ordN (val s.data.toList) (val t.data.toList)) := by
    unfold Hid cmpId; rw [if_pos ha, if_pos hb]
  have HL := Lib.hid (Lib.size_eq s)
  have HM := Lib.hid (Lib.size_eq t)
  rw [numeric_iff] at ha hb
  have z1 : (mk (numeral s.data.toList)).size ≤ maxLen := by have := numeral_le _ ha.1; rw [mk_size]; rw [HL.out] at hs; omega
  have z2 : (mk (numeral t.data.toList)).size ≤ maxLen := by have := numeral_le _ hb.1; rw [mk_size]; rw [HM.out] at ht; omega
  have HC : Hid (∀ W, Calls Tryz.prog 93 #[.string (mk (numeral s.data.toList)), .string (mk (numeral t.data.toList))] W fun e w' => e = .returned (.int .i64 (ordN (val s.data.toList) (val t.data.toList))) ∧ BelowD W.heap.size W w') := fun W => by
    have := Num.compare_anyD (mk (numeral s.data.toList)) (mk (numeral t.data.toList)) W z1 z2
    rw [mk_list, mk_list, cmpNum_yes (numeral_num (all_of_run ha.2)) (numeral_num (all_of_run hb.2)), numeral_val, numeral_val] at this
    exact this
  clear z1 z2 ha hb
  unfold maxLen at hs ht
  generalize val s.data.toList = x at HC HF
  generalize val t.data.toList = y at HC HF
  rw [← HL.out, ← HM.out] at HF
  rcases ordN_cases x y with ⟨_, e⟩ | ⟨_, e⟩ | ⟨_, e⟩
  · rw [e] at HC HF
    have HF2 : Hid (cmpId s.data.toList t.data.toList = -1) := by have := HF.out; rwa [if_neg (by omega)] at this
    clear e HF
    go_enter Tryz.func87, Tryz.ntmps87
    go_wp2_with fail
    refine (numeral_any s _).mono ?_
    rintro e w' ⟨rfl, rfl⟩
    go_wp2_with fail
    refine (numeral_any t _).mono ?_
    rintro e w' ⟨rfl, rfl⟩
    go_wp2_with fail
    refine (HC.out _).mono ?_
    rintro e w1 ⟨rfl, hb1⟩
    go_wp2
    go_ret
    exact ⟨by rw [HF2.out]; rfl, hb1⟩
  · rw [e] at HC HF
    have HF2 : Hid (cmpId s.data.toList t.data.toList = ordN s.size t.size) := by have := HF.out; rwa [if_pos rfl] at this
    clear e HF
    go_enter Tryz.func87, Tryz.ntmps87
    go_wp2_with fail
    refine (numeral_any s _).mono ?_
    rintro e w' ⟨rfl, rfl⟩
    go_wp2_with fail
    refine (numeral_any t _).mono ?_
    rintro e w' ⟨rfl, rfl⟩
    go_wp2_with fail
    refine (HC.out _).mono ?_
    rintro e w1 ⟨rfl, hb1⟩
    go_wp2_with fail
    refine (cmp_any _ _ _).mono ?_
    rintro e w' ⟨rfl, rfl⟩
    go_wp2
    go_ret
    exact ⟨by rw [HF2.out]; rfl, hb1⟩
  · rw [e] at HC HF
    have HF2 : Hid (cmpId s.data.toList t.data.toList = 1) := by have := HF.out; rwa [if_neg (by omega)] at this
    clear e HF
    go_enter Tryz.func87, Tryz.ntmps87
    go_wp2_with fail
    refine (numeral_any s _).mono ?_
    rintro e w' ⟨rfl, rfl⟩
    go_wp2_with fail
    refine (numeral_any t _).mono ?_
    rintro e w' ⟨rfl, rfl⟩
    go_wp2_with fail
    refine (HC.out _).mono ?_
    rintro e w1 ⟨rfl, hb1⟩
    go_wp2
    go_ret
    exact ⟨by rw [HF2.out]; rfl, hb1⟩
theorem numbers_any (s t : ByteArray) (w : World) (hs : s.size ≤ maxLen) (ht : t.size ≤ maxLen) (ha : numeric s.data.toList = true) (hb : numeric t.data.toList = true) :
    Calls Tryz.prog 87 #[.string s, .string t] w fun e w' => e = .returned (.int .i64 (cmpId s.data.toList t.data.toList)) ∧ Below w.heap.size w w' := dropD (numbers_anyD s t w hs ht ha hb)

theorem cmpId_left {a b : List UInt8} (ha : numeric a = true) (hb : numeric b = false) : cmpId a b = -1 := by
  unfold cmpId; rw [if_pos ha, if_neg (by simp [hb])]
theorem cmpId_right {a b : List UInt8} (ha : numeric a = false) (hb : numeric b = true) : cmpId a b = 1 := by
  unfold cmpId; rw [if_neg (by simp [ha]), if_pos hb]
theorem cmpId_none {a b : List UInt8} (ha : numeric a = false) (hb : numeric b = false) : cmpId a b = Lib.compareBytes a b := by
  unfold cmpId; rw [if_neg (by simp [ha]), if_neg (by simp [hb])]

set_option maxRecDepth 100000 in
set_option maxHeartbeats 800000 in
theorem idcmp_anyD (s t : ByteArray) (w : World) (hs : s.size ≤ maxLen) (ht : t.size ≤ maxLen) :
    Calls Tryz.prog 78 #[.string s, .string t] w fun e w' => e = .returned (.int .i64 (cmpId s.data.toList t.data.toList)) ∧ BelowD w.heap.size w w' := by
  have HS := Lib.hid hs; clear hs
  have HT := Lib.hid ht; clear ht
  cases ha : numeric s.data.toList
  · cases hb : numeric t.data.toList
    · have HF := Lib.hid (cmpId_none ha hb)
      have HA := Lib.hid ha; clear ha
      have HB := Lib.hid hb; clear hb
      go_enter Tryz.func78, Tryz.ntmps78
      go_wp2_with fail
      refine (numeric_any s _ HS.out).mono ?_
      rintro e w' ⟨rfl, rfl⟩
      rw [HA.out]
      go_wp2_with fail
      refine (numeric_any t _ HT.out).mono ?_
      rintro e w' ⟨rfl, rfl⟩
      rw [HB.out]
      go_wp2_with fail
      refine (strcmp_any _ _ _).mono ?_
      rintro e w' ⟨rfl, rfl⟩
      go_wp2
      go_ret
      exact ⟨by rw [HF.out]; rfl, BelowD.refl _ _⟩
    · have HF := Lib.hid (cmpId_right ha hb)
      have HA := Lib.hid ha; clear ha
      have HB := Lib.hid hb; clear hb
      go_enter Tryz.func78, Tryz.ntmps78
      go_wp2_with fail
      refine (numeric_any s _ HS.out).mono ?_
      rintro e w' ⟨rfl, rfl⟩
      rw [HA.out]
      go_wp2_with fail
      refine (numeric_any t _ HT.out).mono ?_
      rintro e w' ⟨rfl, rfl⟩
      rw [HB.out]
      go_wp2
      go_ret
      exact ⟨by rw [HF.out]; rfl, BelowD.refl _ _⟩
  · cases hb : numeric t.data.toList
    · have HF := Lib.hid (cmpId_left ha hb)
      have HA := Lib.hid ha; clear ha
      have HB := Lib.hid hb; clear hb
      go_enter Tryz.func78, Tryz.ntmps78
      go_wp2_with fail
      refine (numeric_any s _ HS.out).mono ?_
      rintro e w' ⟨rfl, rfl⟩
      rw [HA.out]
      go_wp2_with fail
      refine (numeric_any t _ HT.out).mono ?_
      rintro e w' ⟨rfl, rfl⟩
      rw [HB.out]
      go_wp2
      go_ret
      exact ⟨by rw [HF.out]; rfl, BelowD.refl _ _⟩
    · have HC := Lib.hid (fun W => numbers_anyD s t W HS.out HT.out ha hb)
      have HA := Lib.hid ha; clear ha
      have HB := Lib.hid hb; clear hb
      go_enter Tryz.func78, Tryz.ntmps78
      go_wp2_with fail
      refine (numeric_any s _ HS.out).mono ?_
      rintro e w' ⟨rfl, rfl⟩
      rw [HA.out]
      go_wp2_with fail
      refine (numeric_any t _ HT.out).mono ?_
      rintro e w' ⟨rfl, rfl⟩
      rw [HB.out]
      go_wp2_with fail
      refine (HC.out _).mono ?_
      rintro e w1 ⟨rfl, hb1⟩
      go_wp2
      go_ret
      exact ⟨rfl, hb1⟩
theorem idcmp_any (s t : ByteArray) (w : World) (hs : s.size ≤ maxLen) (ht : t.size ≤ maxLen) :
    Calls Tryz.prog 78 #[.string s, .string t] w fun e w' => e = .returned (.int .i64 (cmpId s.data.toList t.data.toList)) ∧ Below w.heap.size w w' := dropD (idcmp_anyD s t w hs ht)
end Go.Proofs.YtdbdeadcffpbfaaGreatDoor.Ident
