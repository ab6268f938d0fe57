/-
  Which texts are numerals (num.Is), for any texts; how numerals stand. Condition: the texts' lengths are those that the form allows.
-/
import Derived.Test.YtolkcblkciafiaaDoorNumDigits
import Derived.Test.YtolkcblkciafiaaDoorNumOrder
import Derived.Lib.ConvBytes
import Derived.Lib.Bytealg
import Derived.WalkSpells
namespace Go.Proofs.YtolkcblkciafiaaDoor.Num
open Go.RowKit

/-- Is this a numeral? -/
def isNum (l : List UInt8) : Bool := decide (0 < l.length ∧ run l = l.length ∧ pad l = false)
theorem isNum_iff (l : List UInt8) : isNum l = true ↔ 0 < l.length ∧ run l = l.length ∧ pad l = false := by simp [isNum]
theorem isNum_no (l : List UInt8) : isNum l = false ↔ ¬ (0 < l.length ∧ run l = l.length ∧ pad l = false) := by
  rw [← isNum_iff]; cases isNum l <;> simp

/-- []byte(s): a new row that reads as the text. -/
theorem run_bytesD (w : World) (s : ByteArray) (hs : s.size ≤ maxLen) : ∃ c W, s.size ≤ c ∧
    (convert 9 39 (.string s)).run Tryd.prog w = .ok (.slice (some ⟨w.heap.size, 0, none⟩) s.size c) W ∧ Row W (some ⟨w.heap.size, 0, none⟩) s.size s.data.toList ∧ BelowD w.heap.size w W := by
  refine ⟨_, _, grownCap_ge w s.size 0 5, Lib.run_convert_string_bytes (P := Tryd.prog) w 9 39 5 s Tryd.underlying9 Tryd.underlying39 Tryd.underlying5, ?_, ?_⟩
  · refine ⟨(Lib.size_eq s).symm, hs, fun h0 => ⟨w.heap.size, 0, rfl, by rw [Lib.bytesWorld_size]; omega, fun j hj => ?_⟩⟩
    rw [Nat.zero_add, Lib.bytesWorld_cell w 5 s j hj]; rfl
  · exact ⟨⟨by simp [Lib.bytesWorld, World.freeze]; rfl, by simp [Lib.bytesWorld, World.freeze], by simp [Lib.bytesWorld, World.freeze]; rfl, by rw [Lib.bytesWorld_size]; omega, fun k hk => Lib.bytesWorld_at_old w 5 s k hk⟩, by simp [Lib.bytesWorld, World.freeze]⟩

theorem run_bytes (w : World) (s : ByteArray) (hs : s.size ≤ maxLen) : ∃ c W, s.size ≤ c ∧
    (convert 9 39 (.string s)).run Tryd.prog w = .ok (.slice (some ⟨w.heap.size, 0, none⟩) s.size c) W ∧ Row W (some ⟨w.heap.size, 0, none⟩) s.size s.data.toList ∧ Below w.heap.size w W := by
  obtain ⟨c, W, h1, h2, h3, h4⟩ := run_bytesD w s hs
  exact ⟨c, W, h1, h2, h3, h4.toBelow⟩

set_option maxRecDepth 100000 in
set_option maxHeartbeats 800000 in
theorem is_anyD (s : ByteArray) (w : World) (hs : s.size ≤ maxLen) :
    Calls Tryd.prog 65 #[.string s] w fun e w' => e = .returned (.bool (isNum s.data.toList)) ∧ BelowD w.heap.size w w' := by
  obtain ⟨c, W, hc, hcv, hr, hb⟩ := run_bytesD w s hs
  unfold maxLen at hs
  have HR := Lib.hid hr; clear hr
  have HB := Lib.hid hb; clear hb
  have HL := Lib.hid (Lib.size_eq s)
  by_cases h0 : 0 < s.size
  · by_cases h1 : run s.data.toList = s.size
    · have hb1 : ((run s.data.toList : Int) == (s.size : Int)) = true := by rw [h1]; simp
      have HF : Hid (isNum s.data.toList = !pad s.data.toList) := by
        unfold Hid
        rw [Bool.eq_iff_iff, isNum_iff, ← HL.out]; simp [h0, h1]
      have H1 := Lib.hid h1; clear h1
      go_enter Tryd.func65, Tryd.ntmps65
      go_wp2_with fail
      refine (digits_any _ _ _ _ _ HR.out).mono ?_
      rintro e w' ⟨rfl, rfl⟩
      go_wp2_with fail
      refine (padded_any _ _ _ _ _ HR.out).mono ?_
      rintro e w' ⟨rfl, rfl⟩
      go_wp2
      go_ret
      exact ⟨by rw [HF.out]; rfl, HB.out⟩
    · have hb1 : ((run s.data.toList : Int) == (s.size : Int)) = false := by simp; omega
      have HF : Hid (isNum s.data.toList = false) := (isNum_no _).2 fun hh => h1 (by rw [HL.out]; exact hh.2.1)
      have H1 := Lib.hid h1; clear h1
      go_enter Tryd.func65, Tryd.ntmps65
      go_wp2_with fail
      refine (digits_any _ _ _ _ _ HR.out).mono ?_
      rintro e w' ⟨rfl, rfl⟩
      go_wp2
      go_ret
      exact ⟨by rw [HF.out]; rfl, HB.out⟩
  · have HF : Hid (isNum s.data.toList = false) := (isNum_no _).2 fun hh => h0 (by rw [HL.out]; exact hh.1)
    go_enter Tryd.func65, Tryd.ntmps65
    go_wp2
    go_ret
    exact ⟨by rw [HF.out]; rfl, HB.out⟩

theorem is_any (s : ByteArray) (w : World) (hs : s.size ≤ maxLen) :
    Calls Tryd.prog 65 #[.string s] w fun e w' => e = .returned (.bool (isNum s.data.toList)) ∧ Below w.heap.size w w' := dropD (is_anyD s w hs)

/-- -1, 0, 1. -/
def ordN (x y : Nat) : Int := if x < y then -1 else if y < x then 1 else 0
theorem ordN_lt {x y : Nat} (h : x < y) : ordN x y = -1 := by unfold ordN; rw [if_pos h]
theorem ordN_gt {x y : Nat} (h : y < x) : ordN x y = 1 := by unfold ordN; rw [if_neg (by omega), if_pos h]
theorem ordN_eq {x y : Nat} (h : x = y) : ordN x y = 0 := by unfold ordN; rw [if_neg (by omega), if_neg (by omega)]
theorem ordN_flip (x y : Nat) : ordN y x = 0 - ordN x y := by
  rcases Nat.lt_trichotomy x y with h | h | h
  · rw [ordN_lt h, ordN_gt h]; rfl
  · rw [ordN_eq h, ordN_eq h.symm]; rfl
  · rw [ordN_gt h, ordN_lt h]; rfl

/-- Digits of one length compare, byte by byte, as their numbers do. -/
theorem compare_val : ∀ (x y : List UInt8), AllDig x → AllDig y → x.length = y.length → Lib.compareBytes x y = ordN (val x) (val y) := by
  intro x
  induction x with
  | nil =>
    intro y _ _ h
    have : y = [] := List.eq_nil_of_length_eq_zero (by simpa using h.symm)
    subst this
    rw [ordN_eq rfl]; simp [Lib.compareBytes]
  | cons a x ih =>
    intro y hx hy h
    cases y with
    | nil => simp at h
    | cons b y =>
      have hl : x.length = y.length := by simpa using h
      have h1 := less_val (a :: x) (b :: y) hx hy h
      have h2 := less_val (b :: y) (a :: x) hy hx h.symm
      rw [allDig_cons] at hx hy
      have h3 := ih y hx.2 hy.2 hl
      unfold Op.bytesLess at h1 h2
      rw [Bool.or_eq_true, decide_eq_true_eq] at h1 h2
      unfold Lib.compareBytes
      by_cases hab : a < b
      · rw [if_pos hab, ordN_lt (h1.1 (.inl hab))]
      · rw [if_neg hab]
        by_cases hba : b < a
        · rw [if_pos hba, ordN_gt (h2.1 (.inl hba))]
        · rw [if_neg hba, h3]
          have e : a = b := by
            rw [UInt8.lt_iff_toNat_lt] at hab hba
            exact UInt8.toNat_inj.1 (by omega)
          subst e
          rw [val_cons, val_cons, hl]
          rcases Nat.lt_trichotomy (val x) (val y) with hh | hh | hh
          · rw [ordN_lt hh, ordN_lt (by omega)]
          · rw [ordN_eq hh, ordN_eq (by omega)]
          · rw [ordN_gt hh, ordN_gt (by omega)]

/-- A shorter numeral's number is the lesser one. -/
theorem shorter {x y : List UInt8} (hx : isNum x = true) (hy : isNum y = true) (h : x.length < y.length) : val x < val y := by
  rw [isNum_iff] at hx hy
  have ax := all_of_run hx.2.1
  have ay := all_of_run hy.2.1
  have vx := val_lt ax
  cases y with
  | nil => simp at h
  | cons b r =>
    have hp := (pad_no _).1 hy.2.2
    have hb := (isDig_iff b).1 (allDig_cons.1 ay).1
    have h48 : b.toNat ≠ 48 := fun e => hp ⟨by omega, by simpa using e⟩
    have h1 := le_val (b := b) (r := r) (by omega)
    have h2 : 10 ^ x.length ≤ 10 ^ r.length := Nat.pow_le_pow_right (by omega) (by simp at h; omega)
    omega

theorem alike_val {x y : List UInt8} (hx : isNum x = true) (hy : isNum y = true) (h : x.length = y.length) : Lib.compareBytes x y = ordN (val x) (val y) := by
  rw [isNum_iff] at hx hy
  exact compare_val x y (all_of_run hx.2.1) (all_of_run hy.2.1) h

/-- What num.Compare answers. -/
def cmpNum (a b : List UInt8) : Int := if isNum a = true ∧ isNum b = true then ordN (val a) (val b) else 0
theorem cmpNum_yes {a b : List UInt8} (ha : isNum a = true) (hb : isNum b = true) : cmpNum a b = ordN (val a) (val b) := by unfold cmpNum; rw [if_pos ⟨ha, hb⟩]
theorem cmpNum_no {a b : List UInt8} (h : isNum a = false ∨ isNum b = false) : cmpNum a b = 0 := by
  unfold cmpNum; rw [if_neg]
  rintro ⟨ha, hb⟩
  rcases h with h | h
  · rw [ha] at h; cases h
  · rw [hb] at h; cases h
theorem cmpNum_flip (a b : List UInt8) : cmpNum b a = 0 - cmpNum a b := by
  cases ha : isNum a
  · rw [cmpNum_no (.inl ha), cmpNum_no (.inr ha)]; rfl
  · cases hb : isNum b
    · rw [cmpNum_no (.inl hb), cmpNum_no (.inr hb)]; rfl
    · rw [cmpNum_yes ha hb, cmpNum_yes hb ha]; exact ordN_flip _ _

end Go.Proofs.YtolkcblkciafiaaDoor.Num
