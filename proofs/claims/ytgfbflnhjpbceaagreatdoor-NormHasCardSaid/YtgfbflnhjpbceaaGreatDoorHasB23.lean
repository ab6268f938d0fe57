/-
  What the theorem of the last text needs of these: NumRefIs, IdRef, IdRefGood, IdRefSame, SvRefSmall. Conditions: as each theorem states.
-/
import Derived.Test.YtgfbflnhjpbceaaGreatDoorHasB1
import Derived.Test.YtgfbflnhjpbceaaGreatDoorHasB2
import Derived.Test.YtgfbflnhjpbceaaGreatDoorHasB3
import Derived.StillTailTactics
import Derived.Deep.CutBlock
import Derived.Deep.DeepCutAuto
set_option maxRecDepth 100000
set_option maxHeartbeats 25600000
namespace Go.Proofs.YtgfbflnhjpbceaaGreatDoor.Num
open Go.RowKit

theorem ref_is_any (s : ByteArray) (w : World) (hs : s.size ≤ 1000000) :
  Calls Tryz.prog 121 #[.string s] w fun e w' => e = .returned (.bool (isNum s.data.toList)) ∧ w = w' := by
 have LS := Lib.hid (Lib.size_eq s)
 go_enter Tryz.func121, Tryz.ntmps121
 go_wp2
 go_loop [3] (fun t => ∃ k : Nat, k ≤ s.size ∧ t = .int .i64 k ∧ Hid (∀ j, j < k → isDig (s.data.toList.getD j 0) = true)) (fun t => s.size - (intOf t).toNat)
 case atStart => exact ⟨0, by omega, rfl, fun j h => by omega⟩
 case round =>
  obtain ⟨k, hk, rfl, HD⟩ := hrel
  by_cases hlt : k < s.size
  ·have HX := Lib.hid (at_text s k hlt)
   have HI := Lib.hid (isDig_at s.data.toList k)
   have HN : Hid (¬ (48 ≤ (s[k].toNat : Int) ∧ (s[k].toNat : Int) ≤ 57) → isNum s.data.toList = false) := fun hn => (isNum_no _).2 fun hh => hn (by
    have := run_dig s.data.toList k (by rw [hh.2.1, ← LS.out]; exact hlt)
    rw [HI.out, ← HX.out] at this; exact this)
   by_cases h1 : 48 ≤ (s[k].toNat : Int)
   ·by_cases h2 : (s[k].toNat : Int) ≤ 57
    ·go_wp2
     go_round
     case rel =>
      refine ⟨k + 1, by omega, by go_num, fun j hj => ?_⟩
      rcases Nat.lt_or_ge j k with hj1 | hj1
      ·exact HD.out j hj1
      ·obtain rfl : j = k := by omega
       exact HI.out.2 (by rw [← HX.out]; exact ⟨h1, h2⟩)
     case measure => simp [intOf]; omega
    ·go_wp2
     go_ret
     exact ⟨by rw [HN.out (by omega)]; rfl, rfl⟩
   ·go_wp2
    go_ret
    exact ⟨by rw [HN.out (by omega)]; rfl, rfl⟩
  ·obtain rfl : k = s.size := by omega
   have HR : Hid (run s.data.toList = s.data.toList.length) := run_stop _ _ (Nat.le_refl _) (by rw [← LS.out]; exact HD.out) (.inl rfl)
   by_cases hz : s.toList = [48]
   ·have hb : (s.toList == [48]) = true := by rw [hz]; rfl
    have HF : Hid (isNum s.data.toList = true) := by
     rw [Lib.toList_data] at hz
     unfold Hid; rw [hz]; decide
    have HZ := Lib.hid hz; clear hz
    go_wp2
    go_ret
    exact ⟨by rw [HF.out]; rfl, rfl⟩
   ·have hb : (s.toList == [48]) = false := by simpa using hz
    by_cases h0 : s.size = 0
    ·have hem : s.toList.isEmpty = true := by rw [Lib.toList_data, List.isEmpty_iff_length_eq_zero, ← LS.out]; exact h0
     have hem2 : (!s.toList.isEmpty) = false := by rw [hem]; rfl
     have HF : Hid (isNum s.data.toList = false) := (isNum_no _).2 fun hh => by have := hh.1; rw [← LS.out] at this; omega
     have H0 := Lib.hid h0; clear h0
     go_wp2
     go_ret
     exact ⟨by rw [HF.out]; rfl, rfl⟩
    ·have hem : s.toList.isEmpty = false := by rw [Lib.toList_data, ← Bool.not_eq_true, List.isEmpty_iff_length_eq_zero, ← LS.out]; exact h0
     have hem2 : (!s.toList.isEmpty) = true := by rw [hem]; rfl
     have HP : Hid (∀ h : 0 < s.size, isNum s.data.toList = ((s[0].toNat : Int) != 48)) := by
      intro h
      have e := at_text s 0 h
      rw [Bool.eq_iff_iff, isNum_iff, bne_iff_ne, pad_no, HR.out]
      unfold byteAt at e
      rw [e]
      constructor
      ·rintro ⟨_, _, hp⟩ h48
       have h48' : (s.data.toList.getD 0 0).toNat = 48 := by omega
       by_cases h1 : 1 < s.data.toList.length
       ·exact hp ⟨h1, h48'⟩
       ·apply hz
        rw [Lib.toList_data]
        have hl : s.data.toList.length = 1 := by have := LS.out; omega
        obtain ⟨b, hb1⟩ := List.length_eq_one_iff.1 hl
        rw [hb1] at h48' ⊢
        have : b = 48 := UInt8.toNat_inj.1 (by simpa using h48')
        rw [this]
      ·intro h48
       exact ⟨by have := LS.out; omega, rfl, fun hh => h48 (by have := hh.2; omega)⟩
     have HZ := Lib.hid hz; clear hz
     go_wp2
     go_ret
     exact ⟨by rw [HP.out (by omega)]; rfl, rfl⟩
end Go.Proofs.YtgfbflnhjpbceaaGreatDoor.Num
namespace Go.Proofs.YtgfbflnhjpbceaaGreatDoor.Ident
open Go.RowKit Num

theorem idB_yes1 {x : Int} (h : 48 ≤ x ∧ x ≤ 57) : idB x = true := by unfold idB; rw [digB_yes h]; rfl
theorem idB_yes2 {x : Int} (h : (65 ≤ x ∧ x ≤ 90) ∨ (97 ≤ x ∧ x ≤ 122)) : idB x = true := by unfold idB; rw [letB_yes h]; simp
theorem idB_yes3 : idB 45 = true := by decide
theorem idB_no {x : Int} (h1 : ¬ (48 ≤ x ∧ x ≤ 57)) (h2 : ¬ ((65 ≤ x ∧ x ≤ 90) ∨ (97 ≤ x ∧ x ≤ 122))) (h3 : x ≠ 45) : idB x = false := by
 unfold idB; rw [digB_no h1, letB_no h2]; simp [h3]

theorem ref_byte_any (x : Int) (w : World) (h0 : 0 ≤ x) (h1 : x ≤ 255) :
  Calls Tryz.prog 94 #[.int .u8 x] w fun e w' => e = .returned (.bool (idB x)) ∧ w = w' := by
 by_cases ha : 48 ≤ x
 ·by_cases hb : x ≤ 57
  ·have HF := Lib.hid (idB_yes1 ⟨ha, hb⟩)
   go_enter Tryz.func94, Tryz.ntmps94
   go_wp2
   go_ret
   exact ⟨by rw [HF.out]; rfl, rfl⟩
  ·have h45 : (x == 45) = false := by simp; omega
   by_cases hc : 65 ≤ x
   ·by_cases hd : x ≤ 90
    ·have HF := Lib.hid (idB_yes2 (.inl ⟨hc, hd⟩))
     go_enter Tryz.func94, Tryz.ntmps94
     go_wp2
     go_ret
     exact ⟨by rw [HF.out]; rfl, rfl⟩
    ·by_cases he : 97 ≤ x
     ·by_cases hf : x ≤ 122
      ·have HF := Lib.hid (idB_yes2 (.inr ⟨he, hf⟩))
       go_enter Tryz.func94, Tryz.ntmps94
       go_wp2
       go_ret
       exact ⟨by rw [HF.out]; rfl, rfl⟩
      ·have HF := Lib.hid (idB_no (x := x) (by omega) (by omega) (by omega))
       go_enter Tryz.func94, Tryz.ntmps94
       go_wp2
       go_ret
       exact ⟨by rw [HF.out]; rfl, rfl⟩
     ·have HF := Lib.hid (idB_no (x := x) (by omega) (by omega) (by omega))
      go_enter Tryz.func94, Tryz.ntmps94
      go_wp2
      go_ret
      exact ⟨by rw [HF.out]; rfl, rfl⟩
   ·have he : ¬ 97 ≤ x := by omega
    have HF := Lib.hid (idB_no (x := x) (by omega) (by omega) (by omega))
    go_enter Tryz.func94, Tryz.ntmps94
    go_wp2
    go_ret
    exact ⟨by rw [HF.out]; rfl, rfl⟩
 ·have hc : ¬ 65 ≤ x := by omega
  have he : ¬ 97 ≤ x := by omega
  by_cases h45 : x = 45
  ·subst h45
   have HF := Lib.hid idB_yes3
   clear ha hc he h0 h1
   go_enter Tryz.func94, Tryz.ntmps94
   go_wp2
   go_ret
   exact ⟨by rw [HF.out]; rfl, rfl⟩
  ·have HF := Lib.hid (idB_no (x := x) (by omega) (by omega) h45)
   have hb45 : (x == 45) = false := by simp [h45]
   clear h45
   go_enter Tryz.func94, Tryz.ntmps94
   go_wp2
   go_ret
   exact ⟨by rw [HF.out]; rfl, rfl⟩

theorem ref_numeric_any (s : ByteArray) (w : World) (hs : s.size ≤ 1000000) :
  Calls Tryz.prog 120 #[.string s] w fun e w' => e = .returned (.bool (numeric s.data.toList)) ∧ w = w' := by
 have LS := Lib.hid (Lib.size_eq s)
 go_enter Tryz.func120, Tryz.ntmps120
 go_wp2
 go_loop [3] (fun t => ∃ k : Nat, k ≤ s.size ∧ t = .int .i64 k ∧ Hid (∀ j, j < k → isDig (s.data.toList.getD j 0) = true)) (fun t => s.size - (intOf t).toNat)
 case atStart => exact ⟨0, by omega, rfl, fun j h => by omega⟩
 case round =>
  obtain ⟨k, hk, rfl, HD⟩ := hrel
  by_cases hlt : k < s.size
  ·have HX := Lib.hid (at_text s k hlt)
   have HI := Lib.hid (isDig_at s.data.toList k)
   have HN : Hid (¬ (48 ≤ (s[k].toNat : Int) ∧ (s[k].toNat : Int) ≤ 57) → numeric s.data.toList = false) := fun hn => (numeric_no _).2 fun hh => hn (by
    have := run_dig s.data.toList k (by rw [hh.2, ← LS.out]; exact hlt)
    rw [HI.out, ← HX.out] at this; exact this)
   by_cases h1 : 48 ≤ (s[k].toNat : Int)
   ·by_cases h2 : (s[k].toNat : Int) ≤ 57
    ·go_wp2
     go_round
     case rel =>
      refine ⟨k + 1, by omega, by go_num, fun j hj => ?_⟩
      rcases Nat.lt_or_ge j k with hj1 | hj1
      ·exact HD.out j hj1
      ·obtain rfl : j = k := by omega
       exact HI.out.2 (by rw [← HX.out]; exact ⟨h1, h2⟩)
     case measure => simp [intOf]; omega
    ·go_wp2
     go_ret
     exact ⟨by rw [HN.out (by omega)]; rfl, rfl⟩
   ·go_wp2
    go_ret
    exact ⟨by rw [HN.out (by omega)]; rfl, rfl⟩
  ·obtain rfl : k = s.size := by omega
   have HR : Hid (run s.data.toList = s.data.toList.length) := run_stop _ _ (Nat.le_refl _) (by rw [← LS.out]; exact HD.out) (.inl rfl)
   by_cases h0 : s.size = 0
   ·have hem := (empty_iff s).2 h0
    have hem2 : (!s.toList.isEmpty) = false := by rw [hem]; rfl
    have HF : Hid (numeric s.data.toList = false) := (numeric_no _).2 fun hh => by have := hh.1; rw [← LS.out] at this; omega
    have H0 := Lib.hid h0; clear h0
    go_wp2
    go_ret
    exact ⟨by rw [HF.out]; rfl, rfl⟩
   ·have hem := (empty_no s).2 h0
    have hem2 : (!s.toList.isEmpty) = true := by rw [hem]; rfl
    have HF : Hid (numeric s.data.toList = true) := (numeric_iff _).2 ⟨by rw [← LS.out]; omega, HR.out⟩
    go_wp2
    go_ret
    exact ⟨by rw [HF.out]; rfl, rfl⟩

theorem wrong_all (s : ByteArray) (i : Nat) (pre : Bool) (w : World) (hs : s.size ≤ maxLen) (hi : i ≤ maxLen) :
  Calls Tryz.prog 93 #[.string s, .int .i64 i, .bool pre] w fun e w' => e = .returned (.int .i64 (fault s.data.toList i pre)) ∧ w = w' := by
 unfold maxLen at hs hi
 have HL := Lib.hid (Lib.size_eq s)
 by_cases h0 : s.size = 0
 ·have HF := Lib.hid (fault_5 (s := s.data.toList) i pre (by rw [← HL.out]; exact h0))
  have hem := (empty_iff s).2 h0
  have H0 := Lib.hid h0; clear h0
  go_enter Tryz.func93, Tryz.ntmps93
  go_wp2
  go_ret
  exact ⟨by rw [HF.out]; rfl, rfl⟩
 ·have hem := (empty_no s).2 h0
  have H0 : Hid (s.data.toList.length ≠ 0) := by unfold Hid; rw [← HL.out]; exact h0
  clear h0
  by_cases h1 : 255 < s.size
  ·have HF := Lib.hid (fault_4 (s := s.data.toList) (i := i) pre H0.out (.inl (by rw [← HL.out]; exact h1)))
   go_enter Tryz.func93, Tryz.ntmps93
   go_wp2
   go_ret
   exact ⟨by rw [HF.out]; rfl, rfl⟩
  ·have HS : Hid (s.size ≤ 1000000) := by unfold Hid; omega
   by_cases h2 : 15 < i
   ·have HF := Lib.hid (fault_4 (s := s.data.toList) (i := i) pre H0.out (.inr h2))
    go_enter Tryz.func93, Tryz.ntmps93
    go_wp2
    go_ret
    exact ⟨by rw [HF.out]; rfl, rfl⟩
   ·have H12 : Hid (¬ (255 < s.data.toList.length ∨ 16 ≤ i)) := by unfold Hid; rw [← HL.out]; omega
    cases pre
    ·have HF := Lib.hid (fault_0 (s := s.data.toList) (i := i) (pre := false) H0.out H12.out (by simp))
     go_enter Tryz.func93, Tryz.ntmps93
     go_wp2
     go_ret
     exact ⟨by rw [HF.out]; rfl, rfl⟩
    ·cases h3 : numeric s.data.toList
     ·have HF := Lib.hid (fault_0 (s := s.data.toList) (i := i) (pre := true) H0.out H12.out (by simp [h3]))
      have H3 := Lib.hid h3; clear h3
      go_enter Tryz.func93, Tryz.ntmps93
      go_wp2_with fail
      refine (ref_numeric_any s _ HS.out).mono ?_
      rintro e w' ⟨rfl, rfl⟩
      rw [H3.out]
      go_wp2
      go_ret
      exact ⟨by rw [HF.out]; rfl, rfl⟩
     ·have HF : Hid (fault s.data.toList i true = if isNum s.data.toList = true then 0 else 3) := by
       unfold Hid
       cases h4 : isNum s.data.toList
       ·exact fault_3 H0.out H12.out ⟨rfl, h3, h4⟩
       ·exact fault_0 H0.out H12.out (by simp [h4])
      have H3 := Lib.hid h3; clear h3
      cases h4 : isNum s.data.toList
      ·have H4 := Lib.hid h4; clear h4
       go_enter Tryz.func93, Tryz.ntmps93
       go_wp2_with fail
       refine (ref_numeric_any s _ HS.out).mono ?_
       rintro e w' ⟨rfl, rfl⟩
       rw [H3.out]
       go_wp2_with fail
       refine (ref_is_any s _ HS.out).mono ?_
       rintro e w1 ⟨rfl, rfl⟩
       rw [H4.out]
       go_wp2
       go_ret
       exact ⟨by rw [HF.out, H4.out]; rfl, rfl⟩
      ·have H4 := Lib.hid h4; clear h4
       go_enter Tryz.func93, Tryz.ntmps93
       go_wp2_with fail
       refine (ref_numeric_any s _ HS.out).mono ?_
       rintro e w' ⟨rfl, rfl⟩
       rw [H3.out]
       go_wp2_with fail
       refine (ref_is_any s _ HS.out).mono ?_
       rintro e w1 ⟨rfl, rfl⟩
       rw [H4.out]
       go_wp2
       go_ret
       exact ⟨by rw [HF.out, H4.out]; rfl, rfl⟩

end Go.Proofs.YtgfbflnhjpbceaaGreatDoor.Ident
namespace Go.Proofs.YtgfbflnhjpbceaaGreatDoor.Ident
open Go.RowKit Num

theorem lead_no {x : List UInt8} {j : Nat} (hj : j < x.length) (h : isId (x.getD j 0) = false) : lead x ≠ x.length := by
 intro e
 have := lead_full.1 e (x.getD j 0) (by simp [List.getD, List.getElem?_eq_getElem hj])
 rw [h] at this; cases this
theorem lead_yes {x : List UInt8} (h : ∀ j, j < x.length → isId (x.getD j 0) = true) : lead x = x.length :=
 lead_stop x x.length (Nat.le_refl _) h (.inl rfl)
theorem ref_good_all (A : Option Addr) (n c : Nat) (xs : List (List UInt8)) (pre : Bool) (w : World) (hr : SRow w A n xs) (hn : n ≤ maxLen) (hs : ∀ x ∈ xs, x.length ≤ maxLen) :
  Calls Tryz.prog 57 #[.slice A n c, .bool pre] w fun e w' => e = .returned (.bool (goodFrom pre xs 0)) ∧ w = w' := by
 have HR := Lib.hid hr
 have HL := Lib.hid hr.1
 have HS := Lib.hid hs
 have HM := Lib.hid hn
 unfold maxLen at hn
 clear hr hs
 go_enter Tryz.func57, Tryz.ntmps57
 go_wp2
 go_loop [5] (fun i => ∃ k : Nat, k ≤ n ∧ i = .int .i64 k ∧ Hid (goodFrom pre (xs.drop k) k = goodFrom pre xs 0)) (fun i => n - (intOf i).toNat)
 case atStart => exact ⟨0, Nat.zero_le _, rfl, rfl⟩
 case round =>
  obtain ⟨k, hk, rfl, HG⟩ := hrel
  by_cases hlt : k < n
  ·obtain ⟨b, o, rfl, hb, hcell⟩ := HR.out.2 (by omega)
   have hx := hcell k hlt
   clear hcell
   have HKL : Hid (k < xs.length) := by unfold Hid; rw [HL.out]; exact hlt
   have hlx : (xs.getD k []).length ≤ maxLen := HS.out _ (by have h := HKL.out; simp [List.getD, List.getElem?_eq_getElem h])
   have HST := Lib.hid (fun h1 h2 => goodFrom_step (pre := pre) HKL.out h1 h2)
   have HSP := Lib.hid (fun h => goodFrom_stop (pre := pre) HKL.out h)
   generalize xs.getD k [] = s at hx hlx HST HSP
   go_wp2_with fail
   refine (wrong_all (mk s) k pre _ (by rw [mk_size]; exact hlx) (by unfold maxLen; omega)).mono ?_
   rw [mk_list]
   rintro e w' ⟨rfl, rfl⟩
   have HFP : Hid (fault s k pre = 0 → s.length ≤ 255) := fun h => (fault_pos h).2.1
   generalize fault s k pre = f at HST HSP HFP
   by_cases hf0 : f = 0
   ·subst hf0
    have HST2 := Lib.hid (HST.out rfl)
    clear HST
    have hz : (mk s).size ≤ 300 := Nat.le_trans (HFP.out rfl) (by omega)
    clear hlx HFP
    go_wp2
    go_loop [6] (fun j => ∃ m : Nat, m ≤ (mk s).size ∧ j = .int .i64 m ∧ Hid (∀ j, j < m → isId (s.getD j 0) = true)) (fun j => (mk s).size - (intOf j).toNat)
    case atStart => exact ⟨0, Nat.zero_le _, rfl, fun j hj => by omega⟩
    case round =>
     obtain ⟨m, hm, rfl, HD⟩ := hrel
     by_cases hml : m < (mk s).size
     ·have HX := Lib.hid (at_text (mk s) m hml)
      have hbd := byteAt_bd s m
      have HI : Hid (isId (s.getD m 0) = idB (byteAt s m)) := (idB_at _).symm
      rw [mk_list] at HX
      rw [← HX.out] at hbd HI
      obtain ⟨hx0, hx1⟩ := hbd
      go_wp2_with fail
      refine (ref_byte_any _ _ hx0 hx1).mono ?_
      rintro e w' ⟨rfl, rfl⟩
      cases h1 : idB ((mk s)[m].toNat : Int)
      ·have HF : Hid (goodFrom pre xs 0 = false) := by
        unfold Hid
        rw [← HG.out]
        exact HSP.out (.inr (lead_no hml (by rw [HI.out]; exact h1)))
       have H1 := Lib.hid h1; clear h1
       go_wp2
       go_ret
       exact ⟨by rw [HF.out]; rfl, rfl⟩
      ·have HN : Hid (∀ j, j < m + 1 → isId (s.getD j 0) = true) := fun j hj => by
        rcases Nat.lt_or_ge j m with hj1 | hj1
        ·exact HD.out j hj1
        ·obtain rfl : j = m := by omega
         rw [HI.out]; exact h1
       have H1 := Lib.hid h1; clear h1
       go_wp2
       exact ⟨⟨m + 1, by omega, by go_num, HN.out⟩, by simp [intOf]; omega⟩
     ·have HF : Hid (goodFrom pre (xs.drop (k + 1)) (k + 1) = goodFrom pre xs 0) := by
       unfold Hid
       rw [← HG.out, ← HST2.out (lead_yes (fun j hj => HD.out j (by have : (mk s).size = s.length := rfl; omega)))]
      go_wp2
      exact ⟨⟨k + 1, by omega, by go_num, HF.out⟩, by simp [intOf]; omega⟩
   ·have HF : Hid (goodFrom pre xs 0 = false) := by
     unfold Hid
     rw [← HG.out]
     exact HSP.out (.inl hf0)
    go_wp2
    go_ret
    exact ⟨by rw [HF.out]; rfl, rfl⟩
  ·have HF : Hid (goodFrom pre xs 0 = true) := by
    unfold Hid
    rw [← HG.out, List.drop_eq_nil_of_le (by rw [HL.out]; omega), goodFrom]
   go_wp2
   go_ret
   exact ⟨by rw [HF.out]; rfl, rfl⟩
end Go.Proofs.YtgfbflnhjpbceaaGreatDoor.Ident
namespace Go.Proofs.YtgfbflnhjpbceaaGreatDoor.Ident
open Go.RowKit Num

theorem same_any (A : Option Addr) (a ca : Nat) (xs : List (List UInt8)) (B : Option Addr) (b cb : Nat) (ys : List (List UInt8)) (w : World) (hA : SRow w A a xs) (hB : SRow w B b ys) (ha : a ≤ maxLen) (hb : b ≤ maxLen) :
  Calls Tryz.prog 65 #[.slice A a ca, .slice B b cb] w fun e w' => e = .returned (.bool (sameB xs ys)) ∧ Below w.heap.size w w' := by
 unfold maxLen at ha hb
 have HA := Lib.hid hA
 have HB := Lib.hid hB
 have HLA := Lib.hid hA.1
 have HLB := Lib.hid hB.1
 clear hA hB
 by_cases hab : a = b
 ·subst hab
  go_enter Tryz.func65, Tryz.ntmps65
  go_wp2
  go_loopw [5] (fun i W => ∃ k : Nat, k ≤ a ∧ i = .int .i64 k ∧ Hid (∀ j, j < k → xs.getD j [] = ys.getD j []) ∧ Hid (Below w.heap.size w W)) (fun i _ => a - (intOf i).toNat)
  case atStart => exact ⟨0, Nat.zero_le _, rfl, (fun j hj => by omega), Below.refl _ _⟩
  case round =>
   obtain ⟨k, hk, rfl, HD, HW⟩ := hrel
   by_cases hlt : k < a
   ·obtain ⟨g1, o1, rfl, hg1, hc1⟩ := (HA.out.kept HW.out).2 (by omega)
    obtain ⟨g2, o2, rfl, hg2, hc2⟩ := (HB.out.kept HW.out).2 (by omega)
    have hx1 := hc1 k hlt
    have hx2 := hc2 k hlt
    clear hc1 hc2
    obtain ⟨s, hs⟩ : ∃ s, mk (xs.getD k []) = s := ⟨_, rfl⟩
    obtain ⟨t, ht⟩ : ∃ t, mk (ys.getD k []) = t := ⟨_, rfl⟩
    have HS : Hid (s = t → xs.getD k [] = ys.getD k []) := fun h => by rw [← hs, ← ht] at h; have := congrArg (fun z : ByteArray => z.data.toList) h; exact this
    have HS2 : Hid (s ≠ t → xs ≠ ys) := fun h h2 => h (by rw [← hs, ← ht, h2])
    rw [hs] at hx1
    rw [ht] at hx2
    clear hs ht
    by_cases hst : s = t
    ·have HS3 := Lib.hid (HS.out hst)
     subst hst
     have hq : (s.toList == s.toList) = true := by simp
     have hq2 : (s.toList != s.toList) = false := by simp
     go_wp2
     go_still (by kernel_rfl)
     have HW2 := Lib.hid HW.out.drew
     go_wp2
     refine ⟨⟨k + 1, by omega, by go_num, (fun j hj => ?_), HW2.out⟩, by simp [intOf]; omega⟩
     rcases Nat.lt_or_ge j k with hj1 | hj1
     ·exact HD.out j hj1
     ·obtain rfl : j = k := by omega
      exact HS3.out
    ·have HS3 := Lib.hid (HS2.out hst)
     have hq : (s.toList == t.toList) = false := by
      rw [Lib.toList_data, Lib.toList_data, beq_eq_false_iff_ne]
      exact fun h => hst (by have := congrArg mk h; exact this)
     have hq2 : (s.toList != t.toList) = true := by rw [bne, hq]; rfl
     clear hst
     go_wp2
     go_still (by kernel_rfl)
     have HW2 := Lib.hid HW.out.drew
     go_wp2
     go_ret
     exact ⟨by rw [sameB_no HS3.out]; rfl, HW2.out⟩
   ·have HF : Hid (sameB xs ys = true) := (sameB_iff xs ys).2 (List.ext_getElem (by rw [HLA.out, HLB.out]) fun j h1 h2 => by
     have := HD.out j (by rw [HLA.out] at h1; omega)
     simpa [List.getD, List.getElem?_eq_getElem h1, List.getElem?_eq_getElem h2] using this)
    go_wp2
    go_ret
    exact ⟨by rw [HF.out]; rfl, HW.out⟩
 ·have HF : Hid (sameB xs ys = false) := sameB_no fun h => hab (by rw [← HLA.out, ← HLB.out, h])
  have hq : ((a : Int) == (b : Int)) = false := by simp; omega
  have hq2 : ((a : Int) != (b : Int)) = true := by simp; omega
  go_enter Tryz.func65, Tryz.ntmps65
  go_wp2
  go_ret
  exact ⟨by rw [HF.out]; rfl, Below.refl _ _⟩
end Go.Proofs.YtgfbflnhjpbceaaGreatDoor.Ident
namespace Go.Proofs.YtgfbflnhjpbceaaGreatDoor.Semver
open Go.RowKit Num Ident

theorem refGood_all (v : Ver) (A : Option Addr) (c : Nat) (B : Option Addr) (d : Nat) (w : World) (hr1 : SRow w A v.pre.length v.pre) (hr2 : SRow w B v.build.length v.build) (hn1 : v.pre.length ≤ maxLen) (hn2 : v.build.length ≤ maxLen) (hs1 : ∀ x ∈ v.pre, x.length ≤ maxLen) (hs2 : ∀ x ∈ v.build, x.length ≤ maxLen) :
  Calls Tryz.prog 27 #[.agg #[.int .u64 (v.a : Int), .int .u64 (v.b : Int), .int .u64 (v.c : Int), .slice A v.pre.length c, .slice B v.build.length d]] w fun e w' => e = .returned (.bool (goodV v)) ∧ Below w.heap.size w w' := by
 have HBa : Hid (Below w.heap.size w (w.alloc (.cells #[.int .u64 (v.a : Int), .int .u64 (v.b : Int), .int .u64 (v.c : Int), .slice A v.pre.length c, .slice B v.build.length d] 25))) := (Below.refl _ _).alloc (Nat.le_refl _) _
 have R1 := Lib.hid (hr1.kept HBa.out)
 have R2 := Lib.hid (hr2.kept HBa.out)
 have S1 := Lib.hid hs1
 have S2 := Lib.hid hs2
 have N1 := Lib.hid hn1
 have N2 := Lib.hid hn2
 have HG : Hid (goodV v = (heldB v.a v.b v.c && (goodFrom true v.pre 0 && goodFrom false v.build 0))) := rfl
 clear hr1 hr2 hs1 hs2 hn1 hn2
 by_cases h1 : (v.a : Int) < 9223372036854775808
 ·by_cases h2 : (v.b : Int) < 9223372036854775808
  ·by_cases h3 : (v.c : Int) < 9223372036854775808
   ·have HH := Lib.hid (held_all h1 h2 h3)
    go_enter Tryz.func27, Tryz.ntmps27
    go_wp2_with fail
    refine (ref_good_all _ _ _ v.pre true _ R1.out N1.out S1.out).mono ?_
    rintro e w' ⟨rfl, rfl⟩
    generalize goodFrom true v.pre 0 = g2 at HG ⊢
    cases g2
    ·go_wp2
     go_ret
     exact ⟨by rw [HG.out, HH.out]; rfl, HBa.out⟩
    go_wp2_with fail
    refine (ref_good_all _ _ _ v.build false _ R2.out N2.out S2.out).mono ?_
    rintro e w' ⟨rfl, rfl⟩
    go_wp2
    go_ret
    exact ⟨by rw [HG.out, HH.out]; simp, HBa.out⟩
   ·have HH := Lib.hid (held_not3 (x := v.a) (y := v.b) h3)
    go_enter Tryz.func27, Tryz.ntmps27
    go_wp2
    go_ret
    exact ⟨by rw [HG.out, HH.out]; rfl, HBa.out⟩
  ·have HH := Lib.hid (held_not2 (x := v.a) (z := v.c) h2)
   go_enter Tryz.func27, Tryz.ntmps27
   go_wp2
   go_ret
   exact ⟨by rw [HG.out, HH.out]; rfl, HBa.out⟩
 ·have HH := Lib.hid (held_not1 (y := v.b) (z := v.c) h1)
  go_enter Tryz.func27, Tryz.ntmps27
  go_wp2
  go_ret
  exact ⟨by rw [HG.out, HH.out]; rfl, HBa.out⟩
theorem refSame_any (u v : Ver) (A1 A2 B1 B2 : Option Addr) (c1 c2 d1 d2 : Nat) (w : World) (r1 : SRow w A1 u.pre.length u.pre) (r2 : SRow w A2 u.build.length u.build) (q1 : SRow w B1 v.pre.length v.pre) (q2 : SRow w B2 v.build.length v.build)
  (hn1 : u.pre.length ≤ maxLen) (hn2 : u.build.length ≤ maxLen) (hn3 : v.pre.length ≤ maxLen) (hn4 : v.build.length ≤ maxLen) :
  Calls Tryz.prog 30 #[.agg #[.int .u64 (u.a : Int), .int .u64 (u.b : Int), .int .u64 (u.c : Int), .slice A1 u.pre.length c1, .slice A2 u.build.length c2], .agg #[.int .u64 (v.a : Int), .int .u64 (v.b : Int), .int .u64 (v.c : Int), .slice B1 v.pre.length d1, .slice B2 v.build.length d2]] w fun e w' => e = .returned (.bool (sameV u v)) ∧ Below w.heap.size w w' := by
 have HBa : Hid (Below w.heap.size w ((w.alloc (.cells #[.int .u64 (u.a : Int), .int .u64 (u.b : Int), .int .u64 (u.c : Int), .slice A1 u.pre.length c1, .slice A2 u.build.length c2] 25)).alloc (.cells #[.int .u64 (v.a : Int), .int .u64 (v.b : Int), .int .u64 (v.c : Int), .slice B1 v.pre.length d1, .slice B2 v.build.length d2] 25))) := ((Below.refl _ _).alloc (Nat.le_refl _) _).alloc (by simp) _
 have R1 := Lib.hid (r1.kept HBa.out)
 have R2 := Lib.hid (r2.kept HBa.out)
 have Q1 := Lib.hid (q1.kept HBa.out)
 have Q2 := Lib.hid (q2.kept HBa.out)
 have N1 := Lib.hid hn1
 have N2 := Lib.hid hn2
 have N3 := Lib.hid hn3
 have N4 := Lib.hid hn4
 have K1 : Hid (At5 ((w.alloc (.cells #[.int .u64 (u.a : Int), .int .u64 (u.b : Int), .int .u64 (u.c : Int), .slice A1 u.pre.length c1, .slice A2 u.build.length c2] 25)).alloc (.cells #[.int .u64 (v.a : Int), .int .u64 (v.b : Int), .int .u64 (v.c : Int), .slice B1 v.pre.length d1, .slice B2 v.build.length d2] 25)) w.heap.size (.int .u64 (u.a : Int)) (.int .u64 (u.b : Int)) (.int .u64 (u.c : Int)) (.slice A1 u.pre.length c1) (.slice A2 u.build.length c2)) := (At5.new w 25 _ _ _ _ _).kept ((Below.refl _ _).alloc (Nat.le_refl _) _) (by simp)
 have K2 : Hid (At5 ((w.alloc (.cells #[.int .u64 (u.a : Int), .int .u64 (u.b : Int), .int .u64 (u.c : Int), .slice A1 u.pre.length c1, .slice A2 u.build.length c2] 25)).alloc (.cells #[.int .u64 (v.a : Int), .int .u64 (v.b : Int), .int .u64 (v.c : Int), .slice B1 v.pre.length d1, .slice B2 v.build.length d2] 25)) (w.heap.size + 1) (.int .u64 (v.a : Int)) (.int .u64 (v.b : Int)) (.int .u64 (v.c : Int)) (.slice B1 v.pre.length d1) (.slice B2 v.build.length d2)) := by
  have := At5.new (w.alloc (.cells #[.int .u64 (u.a : Int), .int .u64 (u.b : Int), .int .u64 (u.c : Int), .slice A1 u.pre.length c1, .slice A2 u.build.length c2] 25)) 25 (.int .u64 (v.a : Int)) (.int .u64 (v.b : Int)) (.int .u64 (v.c : Int)) (.slice B1 v.pre.length d1) (.slice B2 v.build.length d2)
  rw [size_alloc] at this; exact this
 clear r1 r2 q1 q2 hn1 hn2 hn3 hn4
 by_cases h1 : u.a = v.a
 ·have e1 : ((u.a : Int) == (v.a : Int)) = true := by simp [h1]
  by_cases h2 : u.b = v.b
  ·have e2 : ((u.b : Int) == (v.b : Int)) = true := by simp [h2]
   by_cases h3 : u.c = v.c
   ·have e3 : ((u.c : Int) == (v.c : Int)) = true := by simp [h3]
    have HF : Hid (sameV u v = (sameB u.pre v.pre && sameB u.build v.build)) := by unfold Hid sameV; rw [decide_eq_true ⟨h1, h2, h3⟩]; rfl
    clear h1 h2 h3
    go_enter Tryz.func30, Tryz.ntmps30
    go_upto_region 1 with (fail)
    generalize ((w.alloc (.cells #[.int .u64 (u.a : Int), .int .u64 (u.b : Int), .int .u64 (u.c : Int), .slice A1 u.pre.length c1, .slice A2 u.build.length c2] 25)).alloc (.cells #[.int .u64 (v.a : Int), .int .u64 (v.b : Int), .int .u64 (v.c : Int), .slice B1 v.pre.length d1, .slice B2 v.build.length d2] 25)) = W at HBa R1 R2 Q1 Q2 K1 K2 ⊢
    have hz := K2.out.1
    have hzw := HBa.out.size
    obtain ⟨_, _, x0, x1, x2, x3, x4⟩ := K1.out
    obtain ⟨_, _, y0, y1, y2, y3, y4⟩ := K2.out
    go_wp2_with fail
    refine (same_any _ _ _ u.pre _ _ _ v.pre _ R1.out Q1.out N1.out N3.out).mono ?_
    rintro e w1 ⟨rfl, hb1⟩
    have L1 := Lib.hid (K1.out.kept hb1 (by omega))
    have L2 := Lib.hid (K2.out.kept hb1 (by omega))
    have R2' := Lib.hid (R2.out.kept hb1)
    have Q2' := Lib.hid (Q2.out.kept hb1)
    have HB1 := Lib.hid (HBa.out.trans (hb1.mono hzw))
    have hz1 := HB1.out.size
    clear hb1 x0 x1 x2 x3 x4 y0 y1 y2 y3 y4
    obtain ⟨_, _, x0, x1, x2, x3, x4⟩ := L1.out
    obtain ⟨_, _, y0, y1, y2, y3, y4⟩ := L2.out
    generalize sameB u.pre v.pre = g1 at HF ⊢
    cases g1
    ·go_wp2
     go_ret
     exact ⟨by rw [HF.out]; rfl, HB1.out⟩
    go_wp2_with fail
    refine (same_any _ _ _ u.build _ _ _ v.build _ R2'.out Q2'.out N2.out N4.out).mono ?_
    rintro e w2 ⟨rfl, hb2⟩
    have HB2 := Lib.hid (HB1.out.trans (hb2.mono hz1))
    clear hb2 x0 x1 x2 x3 x4 y0 y1 y2 y3 y4
    go_wp2
    go_ret
    exact ⟨by rw [HF.out]; simp, HB2.out⟩
   ·have e3 : ((u.c : Int) == (v.c : Int)) = false := by simp; omega
    have HF := Lib.hid (sameV_no (u := u) (v := v) fun h => h3 h.2.2)
    clear h1 h2 h3
    go_enter Tryz.func30, Tryz.ntmps30
    go_wp2
    go_ret
    exact ⟨by rw [HF.out]; rfl, HBa.out⟩
  ·have e2 : ((u.b : Int) == (v.b : Int)) = false := by simp; omega
   have HF := Lib.hid (sameV_no (u := u) (v := v) fun h => h2 h.2.1)
   clear h1 h2
   go_enter Tryz.func30, Tryz.ntmps30
   go_wp2
   go_ret
   exact ⟨by rw [HF.out]; rfl, HBa.out⟩
 ·have e1 : ((u.a : Int) == (v.a : Int)) = false := by simp; omega
  have HF := Lib.hid (sameV_no (u := u) (v := v) fun h => h1 h.1)
  clear h1
  go_enter Tryz.func30, Tryz.ntmps30
  go_wp2
  go_ret
  exact ⟨by rw [HF.out]; rfl, HBa.out⟩
end Go.Proofs.YtgfbflnhjpbceaaGreatDoor.Semver
