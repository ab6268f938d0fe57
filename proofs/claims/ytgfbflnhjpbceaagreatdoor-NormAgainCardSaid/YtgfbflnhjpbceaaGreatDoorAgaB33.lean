/-
  What the theorem of the last text needs of these: NmAwake, NumRefIs, IdRef, IdRefGood, SvRefSmall. Conditions: as each theorem states.
-/
import Derived.Test.YtgfbflnhjpbceaaGreatDoorAgaB1
import Derived.Test.YtgfbflnhjpbceaaGreatDoorAgaB2
import Derived.Test.YtgfbflnhjpbceaaGreatDoorAgaB3
import Derived.Test.YtgfbflnhjpbceaaGreatDoorAgaB5
import Derived.Test.YtgfbflnhjpbceaaGreatDoorAgaB28
import Derived.Test.YtgfbflnhjpbceaaGreatDoorAgaB32
import Derived.Deep.QuietTactic
import Derived.BigQuiet
import Derived.Deep.CutBlock
import Derived.Deep.DeepCutAuto
import Derived.StillTailTactics
set_option maxRecDepth 100000
set_option maxHeartbeats 25600000
namespace Go.Proofs.YtgfbflnhjpbceaaGreatDoor.Nrm
open Go.RowKit Num Ident Semver Prec Span
open Range (Rng noRng goodR goodL fits wt wtL RV RAt OpsTab Keep KeepS LtB zeroRV)
theorem awake_any (w : World) (htab : Tab w) (ht : OpsTab w) :
  Calls Tryz.prog 8 #[] w fun e w' => e = .returned (.bool true) ∧ Below w.heap.size w w' := by
 have HT := Lib.hid ht
 have HTab := Lib.hid htab
 clear ht htab
 have HK := Lib.hid exA_read
 go_enter Tryz.func8, Tryz.ntmps8
 go_wp2_with fail
 refine (Range.read_any ⟨#[94, 49, 46, 50, 46, 48, 44, 32, 33, 61, 49, 46, 51, 46, 48]⟩ _ (by decide) HT.out).mono ?_
 rw [show (⟨#[94, 49, 46, 50, 46, 48, 44, 32, 33, 61, 49, 46, 51, 46, 48]⟩ : ByteArray).data.toList = exA from rfl, HK.out]
 generalize hr : rA = r
 rintro e V1 ⟨x, rfl, lx, hb⟩
 unfold RV.agg
 simp only at lx ⊢
 have HB2 : Hid (Below w.heap.size w (V1.alloc (.cells #[.int .i64 x.kind, .int .u64 (x.v.a : Int), .int .u64 (x.v.b : Int), .int .u64 (x.v.c : Int), .slice x.A x.v.pre.length x.c, .slice x.B x.v.build.length x.d, .slice x.L x.n x.e] 28))) := hb.alloc hb.size _
 have HX2 : Hid (Range.Lies (V1.alloc (.cells #[.int .i64 x.kind, .int .u64 (x.v.a : Int), .int .u64 (x.v.b : Int), .int .u64 (x.v.c : Int), .slice x.A x.v.pre.length x.c, .slice x.B x.v.build.length x.d, .slice x.L x.n x.e] 28)) (LtB (V1.alloc (.cells #[.int .i64 x.kind, .int .u64 (x.v.a : Int), .int .u64 (x.v.b : Int), .int .u64 (x.v.c : Int), .slice x.A x.v.pre.length x.c, .slice x.B x.v.build.length x.d, .slice x.L x.n x.e] 28)).heap.size) r x) := (lx.keep (KeepS.alloc _ _)).mono fun _ _ h => h
 have HR2 : Hid (RAt (V1.alloc (.cells #[.int .i64 x.kind, .int .u64 (x.v.a : Int), .int .u64 (x.v.b : Int), .int .u64 (x.v.c : Int), .slice x.A x.v.pre.length x.c, .slice x.B x.v.build.length x.d, .slice x.L x.n x.e] 28)) V1.heap.size x) := RAt.new V1 _ x
 clear hb lx
 go_upto_region 2 with (fail)
 generalize V1.alloc (.cells #[.int .i64 x.kind, .int .u64 (x.v.a : Int), .int .u64 (x.v.b : Int), .int .u64 (x.v.c : Int), .slice x.A x.v.pre.length x.c, .slice x.B x.v.build.length x.d, .slice x.L x.n x.e] 28) = V2 at HB2 HX2 HR2 ⊢
 obtain ⟨y1, y2, c0, c1, c2, c3, c4, c5, c6⟩ := HR2.out
 go_wp2_with fail
 refine (simple_any r x V2.heap.size V2 HX2.out (Nat.le_refl _) (by rw [← hr]; exact Range.LenOk.of_wt 3 _ (by decide) (by decide)) (fun _ => .inl (by rw [← hr]; decide))).mono ?_
 rintro e V3 ⟨y, s, rfl, ly, hb, hs⟩
 have HS : Hid (s = plainR oA) := by
  refine Lib.hid ?_
  rcases hs with ⟨hg, o, ho, _, he⟩ | ⟨hg, _⟩
  ·rw [he]
   rw [← hr] at ho
   rw [ho.one oA_set]
  ·rw [← hr, rA_good] at hg; cases hg
 have HB3 := Lib.hid (HB2.out.trans (hb.mono HB2.out.size))
 have HY3 : Hid (Range.Lies V3 (LtB V3.heap.size) s y) := ly.mono fun _ _ h => h
 clear hb ly hs HX2 HR2 HB2 y1 y2 c0 c1 c2 c3 c4 c5 c6
 have hs := HS.out
 subst hs
 unfold RV.agg
 go_wp2_with fail
 refine (Range.text_any (plainR oA) y V3.heap.size V3 HY3.out (Nat.le_refl _) (plain_good oA_norm) (by decide) (by rw [oA_text]; decide) (HT.out.keep (Keep.of_below HB3.out)) (HTab.out.kept HB3.out)).mono ?_
 rw [oA_text]
 rintro e V4 ⟨rfl, hb⟩
 have HB4 := Lib.hid (HB3.out.trans (hb.mono HB3.out.size))
 clear hb
 have hq : ((mk exT).toList == [62, 61, 49, 46, 50, 46, 48, 44, 32, 60, 50, 46, 48, 46, 48, 45, 48, 44, 32, 33, 61, 49, 46, 51, 46, 48]) = true := by rw [Lib.toList_data]; decide
 go_wp2
 go_ret
 exact ⟨rfl, HB4.out⟩
end Go.Proofs.YtgfbflnhjpbceaaGreatDoor.Nrm
namespace Go.Proofs.YtgfbflnhjpbceaaGreatDoor.Num
open Go.RowKit

theorem ref_is_any (s : ByteArray) (w : World) (hs : s.size ≤ 1000000) :
  Calls Tryz.prog 121 #[.string s] w fun e w' => e = .returned (.bool (isNum s.data.toList)) ∧ w = w' := by
 have LS := Lib.hid (Lib.size_eq s)
 go_enter Tryz.func121, Tryz.ntmps121
 go_wp2
 go_loop [3] (fun t => ∃ k : Nat, k ≤ s.size ∧ t = .int .i64 k ∧ Hid (∀ j, j < k → isDig (s.data.toList.getD j 0) = true)) (fun t => s.size - (intOf t).toNat)
 case atStart => exact ⟨0, by omega, rfl, fun j h => by omega⟩
 case round =>
  obtain ⟨k, hk, rfl, HD⟩ := hrel
  by_cases hlt : k < s.size
  ·have HX := Lib.hid (at_text s k hlt)
   have HI := Lib.hid (isDig_at s.data.toList k)
   have HN : Hid (¬ (48 ≤ (s[k].toNat : Int) ∧ (s[k].toNat : Int) ≤ 57) → isNum s.data.toList = false) := fun hn => (isNum_no _).2 fun hh => hn (by
    have := run_dig s.data.toList k (by rw [hh.2.1, ← LS.out]; exact hlt)
    rw [HI.out, ← HX.out] at this; exact this)
   by_cases h1 : 48 ≤ (s[k].toNat : Int)
   ·by_cases h2 : (s[k].toNat : Int) ≤ 57
    ·go_wp2
     go_round
     case rel =>
      refine ⟨k + 1, by omega, by go_num, fun j hj => ?_⟩
      rcases Nat.lt_or_ge j k with hj1 | hj1
      ·exact HD.out j hj1
      ·obtain rfl : j = k := by omega
       exact HI.out.2 (by rw [← HX.out]; exact ⟨h1, h2⟩)
     case measure => simp [intOf]; omega
    ·go_wp2
     go_ret
     exact ⟨by rw [HN.out (by omega)]; rfl, rfl⟩
   ·go_wp2
    go_ret
    exact ⟨by rw [HN.out (by omega)]; rfl, rfl⟩
  ·obtain rfl : k = s.size := by omega
   have HR : Hid (run s.data.toList = s.data.toList.length) := run_stop _ _ (Nat.le_refl _) (by rw [← LS.out]; exact HD.out) (.inl rfl)
   by_cases hz : s.toList = [48]
   ·have hb : (s.toList == [48]) = true := by rw [hz]; rfl
    have HF : Hid (isNum s.data.toList = true) := by
     rw [Lib.toList_data] at hz
     unfold Hid; rw [hz]; decide
    have HZ := Lib.hid hz; clear hz
    go_wp2
    go_ret
    exact ⟨by rw [HF.out]; rfl, rfl⟩
   ·have hb : (s.toList == [48]) = false := by simpa using hz
    by_cases h0 : s.size = 0
    ·have hem : s.toList.isEmpty = true := by rw [Lib.toList_data, List.isEmpty_iff_length_eq_zero, ← LS.out]; exact h0
     have hem2 : (!s.toList.isEmpty) = false := by rw [hem]; rfl
     have HF : Hid (isNum s.data.toList = false) := (isNum_no _).2 fun hh => by have := hh.1; rw [← LS.out] at this; omega
     have H0 := Lib.hid h0; clear h0
     go_wp2
     go_ret
     exact ⟨by rw [HF.out]; rfl, rfl⟩
    ·have hem : s.toList.isEmpty = false := by rw [Lib.toList_data, ← Bool.not_eq_true, List.isEmpty_iff_length_eq_zero, ← LS.out]; exact h0
     have hem2 : (!s.toList.isEmpty) = true := by rw [hem]; rfl
     have HP : Hid (∀ h : 0 < s.size, isNum s.data.toList = ((s[0].toNat : Int) != 48)) := by
      intro h
      have e := at_text s 0 h
      rw [Bool.eq_iff_iff, isNum_iff, bne_iff_ne, pad_no, HR.out]
      unfold byteAt at e
      rw [e]
      constructor
      ·rintro ⟨_, _, hp⟩ h48
       have h48' : (s.data.toList.getD 0 0).toNat = 48 := by omega
       by_cases h1 : 1 < s.data.toList.length
       ·exact hp ⟨h1, h48'⟩
       ·apply hz
        rw [Lib.toList_data]
        have hl : s.data.toList.length = 1 := by have := LS.out; omega
        obtain ⟨b, hb1⟩ := List.length_eq_one_iff.1 hl
        rw [hb1] at h48' ⊢
        have : b = 48 := UInt8.toNat_inj.1 (by simpa using h48')
        rw [this]
      ·intro h48
       exact ⟨by have := LS.out; omega, rfl, fun hh => h48 (by have := hh.2; omega)⟩
     have HZ := Lib.hid hz; clear hz
     go_wp2
     go_ret
     exact ⟨by rw [HP.out (by omega)]; rfl, rfl⟩
end Go.Proofs.YtgfbflnhjpbceaaGreatDoor.Num
namespace Go.Proofs.YtgfbflnhjpbceaaGreatDoor.Ident
open Go.RowKit Num

theorem idB_yes1 {x : Int} (h : 48 ≤ x ∧ x ≤ 57) : idB x = true := by unfold idB; rw [digB_yes h]; rfl
theorem idB_yes2 {x : Int} (h : (65 ≤ x ∧ x ≤ 90) ∨ (97 ≤ x ∧ x ≤ 122)) : idB x = true := by unfold idB; rw [letB_yes h]; simp
theorem idB_yes3 : idB 45 = true := by decide
theorem idB_no {x : Int} (h1 : ¬ (48 ≤ x ∧ x ≤ 57)) (h2 : ¬ ((65 ≤ x ∧ x ≤ 90) ∨ (97 ≤ x ∧ x ≤ 122))) (h3 : x ≠ 45) : idB x = false := by
 unfold idB; rw [digB_no h1, letB_no h2]; simp [h3]

theorem ref_byte_any (x : Int) (w : World) (h0 : 0 ≤ x) (h1 : x ≤ 255) :
  Calls Tryz.prog 94 #[.int .u8 x] w fun e w' => e = .returned (.bool (idB x)) ∧ w = w' := by
 by_cases ha : 48 ≤ x
 ·by_cases hb : x ≤ 57
  ·have HF := Lib.hid (idB_yes1 ⟨ha, hb⟩)
   go_enter Tryz.func94, Tryz.ntmps94
   go_wp2
   go_ret
   exact ⟨by rw [HF.out]; rfl, rfl⟩
  ·have h45 : (x == 45) = false := by simp; omega
   by_cases hc : 65 ≤ x
   ·by_cases hd : x ≤ 90
    ·have HF := Lib.hid (idB_yes2 (.inl ⟨hc, hd⟩))
     go_enter Tryz.func94, Tryz.ntmps94
     go_wp2
     go_ret
     exact ⟨by rw [HF.out]; rfl, rfl⟩
    ·by_cases he : 97 ≤ x
     ·by_cases hf : x ≤ 122
      ·have HF := Lib.hid (idB_yes2 (.inr ⟨he, hf⟩))
       go_enter Tryz.func94, Tryz.ntmps94
       go_wp2
       go_ret
       exact ⟨by rw [HF.out]; rfl, rfl⟩
      ·have HF := Lib.hid (idB_no (x := x) (by omega) (by omega) (by omega))
       go_enter Tryz.func94, Tryz.ntmps94
       go_wp2
       go_ret
       exact ⟨by rw [HF.out]; rfl, rfl⟩
     ·have HF := Lib.hid (idB_no (x := x) (by omega) (by omega) (by omega))
      go_enter Tryz.func94, Tryz.ntmps94
      go_wp2
      go_ret
      exact ⟨by rw [HF.out]; rfl, rfl⟩
   ·have he : ¬ 97 ≤ x := by omega
    have HF := Lib.hid (idB_no (x := x) (by omega) (by omega) (by omega))
    go_enter Tryz.func94, Tryz.ntmps94
    go_wp2
    go_ret
    exact ⟨by rw [HF.out]; rfl, rfl⟩
 ·have hc : ¬ 65 ≤ x := by omega
  have he : ¬ 97 ≤ x := by omega
  by_cases h45 : x = 45
  ·subst h45
   have HF := Lib.hid idB_yes3
   clear ha hc he h0 h1
   go_enter Tryz.func94, Tryz.ntmps94
   go_wp2
   go_ret
   exact ⟨by rw [HF.out]; rfl, rfl⟩
  ·have HF := Lib.hid (idB_no (x := x) (by omega) (by omega) h45)
   have hb45 : (x == 45) = false := by simp [h45]
   clear h45
   go_enter Tryz.func94, Tryz.ntmps94
   go_wp2
   go_ret
   exact ⟨by rw [HF.out]; rfl, rfl⟩

theorem ref_numeric_any (s : ByteArray) (w : World) (hs : s.size ≤ 1000000) :
  Calls Tryz.prog 120 #[.string s] w fun e w' => e = .returned (.bool (numeric s.data.toList)) ∧ w = w' := by
 have LS := Lib.hid (Lib.size_eq s)
 go_enter Tryz.func120, Tryz.ntmps120
 go_wp2
 go_loop [3] (fun t => ∃ k : Nat, k ≤ s.size ∧ t = .int .i64 k ∧ Hid (∀ j, j < k → isDig (s.data.toList.getD j 0) = true)) (fun t => s.size - (intOf t).toNat)
 case atStart => exact ⟨0, by omega, rfl, fun j h => by omega⟩
 case round =>
  obtain ⟨k, hk, rfl, HD⟩ := hrel
  by_cases hlt : k < s.size
  ·have HX := Lib.hid (at_text s k hlt)
   have HI := Lib.hid (isDig_at s.data.toList k)
   have HN : Hid (¬ (48 ≤ (s[k].toNat : Int) ∧ (s[k].toNat : Int) ≤ 57) → numeric s.data.toList = false) := fun hn => (numeric_no _).2 fun hh => hn (by
    have := run_dig s.data.toList k (by rw [hh.2, ← LS.out]; exact hlt)
    rw [HI.out, ← HX.out] at this; exact this)
   by_cases h1 : 48 ≤ (s[k].toNat : Int)
   ·by_cases h2 : (s[k].toNat : Int) ≤ 57
    ·go_wp2
     go_round
     case rel =>
      refine ⟨k + 1, by omega, by go_num, fun j hj => ?_⟩
      rcases Nat.lt_or_ge j k with hj1 | hj1
      ·exact HD.out j hj1
      ·obtain rfl : j = k := by omega
       exact HI.out.2 (by rw [← HX.out]; exact ⟨h1, h2⟩)
     case measure => simp [intOf]; omega
    ·go_wp2
     go_ret
     exact ⟨by rw [HN.out (by omega)]; rfl, rfl⟩
   ·go_wp2
    go_ret
    exact ⟨by rw [HN.out (by omega)]; rfl, rfl⟩
  ·obtain rfl : k = s.size := by omega
   have HR : Hid (run s.data.toList = s.data.toList.length) := run_stop _ _ (Nat.le_refl _) (by rw [← LS.out]; exact HD.out) (.inl rfl)
   by_cases h0 : s.size = 0
   ·have hem := (empty_iff s).2 h0
    have hem2 : (!s.toList.isEmpty) = false := by rw [hem]; rfl
    have HF : Hid (numeric s.data.toList = false) := (numeric_no _).2 fun hh => by have := hh.1; rw [← LS.out] at this; omega
    have H0 := Lib.hid h0; clear h0
    go_wp2
    go_ret
    exact ⟨by rw [HF.out]; rfl, rfl⟩
   ·have hem := (empty_no s).2 h0
    have hem2 : (!s.toList.isEmpty) = true := by rw [hem]; rfl
    have HF : Hid (numeric s.data.toList = true) := (numeric_iff _).2 ⟨by rw [← LS.out]; omega, HR.out⟩
    go_wp2
    go_ret
    exact ⟨by rw [HF.out]; rfl, rfl⟩

theorem wrong_all (s : ByteArray) (i : Nat) (pre : Bool) (w : World) (hs : s.size ≤ maxLen) (hi : i ≤ maxLen) :
  Calls Tryz.prog 93 #[.string s, .int .i64 i, .bool pre] w fun e w' => e = .returned (.int .i64 (fault s.data.toList i pre)) ∧ w = w' := by
 unfold maxLen at hs hi
 have HL := Lib.hid (Lib.size_eq s)
 by_cases h0 : s.size = 0
 ·have HF := Lib.hid (fault_5 (s := s.data.toList) i pre (by rw [← HL.out]; exact h0))
  have hem := (empty_iff s).2 h0
  have H0 := Lib.hid h0; clear h0
  go_enter Tryz.func93, Tryz.ntmps93
  go_wp2
  go_ret
  exact ⟨by rw [HF.out]; rfl, rfl⟩
 ·have hem := (empty_no s).2 h0
  have H0 : Hid (s.data.toList.length ≠ 0) := by unfold Hid; rw [← HL.out]; exact h0
  clear h0
  by_cases h1 : 255 < s.size
  ·have HF := Lib.hid (fault_4 (s := s.data.toList) (i := i) pre H0.out (.inl (by rw [← HL.out]; exact h1)))
   go_enter Tryz.func93, Tryz.ntmps93
   go_wp2
   go_ret
   exact ⟨by rw [HF.out]; rfl, rfl⟩
  ·have HS : Hid (s.size ≤ 1000000) := by unfold Hid; omega
   by_cases h2 : 15 < i
   ·have HF := Lib.hid (fault_4 (s := s.data.toList) (i := i) pre H0.out (.inr h2))
    go_enter Tryz.func93, Tryz.ntmps93
    go_wp2
    go_ret
    exact ⟨by rw [HF.out]; rfl, rfl⟩
   ·have H12 : Hid (¬ (255 < s.data.toList.length ∨ 16 ≤ i)) := by unfold Hid; rw [← HL.out]; omega
    cases pre
    ·have HF := Lib.hid (fault_0 (s := s.data.toList) (i := i) (pre := false) H0.out H12.out (by simp))
     go_enter Tryz.func93, Tryz.ntmps93
     go_wp2
     go_ret
     exact ⟨by rw [HF.out]; rfl, rfl⟩
    ·cases h3 : numeric s.data.toList
     ·have HF := Lib.hid (fault_0 (s := s.data.toList) (i := i) (pre := true) H0.out H12.out (by simp [h3]))
      have H3 := Lib.hid h3; clear h3
      go_enter Tryz.func93, Tryz.ntmps93
      go_wp2_with fail
      refine (ref_numeric_any s _ HS.out).mono ?_
      rintro e w' ⟨rfl, rfl⟩
      rw [H3.out]
      go_wp2
      go_ret
      exact ⟨by rw [HF.out]; rfl, rfl⟩
     ·have HF : Hid (fault s.data.toList i true = if isNum s.data.toList = true then 0 else 3) := by
       unfold Hid
       cases h4 : isNum s.data.toList
       ·exact fault_3 H0.out H12.out ⟨rfl, h3, h4⟩
       ·exact fault_0 H0.out H12.out (by simp [h4])
      have H3 := Lib.hid h3; clear h3
      cases h4 : isNum s.data.toList
      ·have H4 := Lib.hid h4; clear h4
       go_enter Tryz.func93, Tryz.ntmps93
       go_wp2_with fail
       refine (ref_numeric_any s _ HS.out).mono ?_
       rintro e w' ⟨rfl, rfl⟩
       rw [H3.out]
       go_wp2_with fail
       refine (ref_is_any s _ HS.out).mono ?_
       rintro e w1 ⟨rfl, rfl⟩
       rw [H4.out]
       go_wp2
       go_ret
       exact ⟨by rw [HF.out, H4.out]; rfl, rfl⟩
      ·have H4 := Lib.hid h4; clear h4
       go_enter Tryz.func93, Tryz.ntmps93
       go_wp2_with fail
       refine (ref_numeric_any s _ HS.out).mono ?_
       rintro e w' ⟨rfl, rfl⟩
       rw [H3.out]
       go_wp2_with fail
       refine (ref_is_any s _ HS.out).mono ?_
       rintro e w1 ⟨rfl, rfl⟩
       rw [H4.out]
       go_wp2
       go_ret
       exact ⟨by rw [HF.out, H4.out]; rfl, rfl⟩

end Go.Proofs.YtgfbflnhjpbceaaGreatDoor.Ident
namespace Go.Proofs.YtgfbflnhjpbceaaGreatDoor.Ident
open Go.RowKit Num

theorem lead_no {x : List UInt8} {j : Nat} (hj : j < x.length) (h : isId (x.getD j 0) = false) : lead x ≠ x.length := by
 intro e
 have := lead_full.1 e (x.getD j 0) (by simp [List.getD, List.getElem?_eq_getElem hj])
 rw [h] at this; cases this
theorem lead_yes {x : List UInt8} (h : ∀ j, j < x.length → isId (x.getD j 0) = true) : lead x = x.length :=
 lead_stop x x.length (Nat.le_refl _) h (.inl rfl)
theorem ref_good_all (A : Option Addr) (n c : Nat) (xs : List (List UInt8)) (pre : Bool) (w : World) (hr : SRow w A n xs) (hn : n ≤ maxLen) (hs : ∀ x ∈ xs, x.length ≤ maxLen) :
  Calls Tryz.prog 57 #[.slice A n c, .bool pre] w fun e w' => e = .returned (.bool (goodFrom pre xs 0)) ∧ w = w' := by
 have HR := Lib.hid hr
 have HL := Lib.hid hr.1
 have HS := Lib.hid hs
 have HM := Lib.hid hn
 unfold maxLen at hn
 clear hr hs
 go_enter Tryz.func57, Tryz.ntmps57
 go_wp2
 go_loop [5] (fun i => ∃ k : Nat, k ≤ n ∧ i = .int .i64 k ∧ Hid (goodFrom pre (xs.drop k) k = goodFrom pre xs 0)) (fun i => n - (intOf i).toNat)
 case atStart => exact ⟨0, Nat.zero_le _, rfl, rfl⟩
 case round =>
  obtain ⟨k, hk, rfl, HG⟩ := hrel
  by_cases hlt : k < n
  ·obtain ⟨b, o, rfl, hb, hcell⟩ := HR.out.2 (by omega)
   have hx := hcell k hlt
   clear hcell
   have HKL : Hid (k < xs.length) := by unfold Hid; rw [HL.out]; exact hlt
   have hlx : (xs.getD k []).length ≤ maxLen := HS.out _ (by have h := HKL.out; simp [List.getD, List.getElem?_eq_getElem h])
   have HST := Lib.hid (fun h1 h2 => goodFrom_step (pre := pre) HKL.out h1 h2)
   have HSP := Lib.hid (fun h => goodFrom_stop (pre := pre) HKL.out h)
   generalize xs.getD k [] = s at hx hlx HST HSP
   go_wp2_with fail
   refine (wrong_all (mk s) k pre _ (by rw [mk_size]; exact hlx) (by unfold maxLen; omega)).mono ?_
   rw [mk_list]
   rintro e w' ⟨rfl, rfl⟩
   have HFP : Hid (fault s k pre = 0 → s.length ≤ 255) := fun h => (fault_pos h).2.1
   generalize fault s k pre = f at HST HSP HFP
   by_cases hf0 : f = 0
   ·subst hf0
    have HST2 := Lib.hid (HST.out rfl)
    clear HST
    have hz : (mk s).size ≤ 300 := Nat.le_trans (HFP.out rfl) (by omega)
    clear hlx HFP
    go_wp2
    go_loop [6] (fun j => ∃ m : Nat, m ≤ (mk s).size ∧ j = .int .i64 m ∧ Hid (∀ j, j < m → isId (s.getD j 0) = true)) (fun j => (mk s).size - (intOf j).toNat)
    case atStart => exact ⟨0, Nat.zero_le _, rfl, fun j hj => by omega⟩
    case round =>
     obtain ⟨m, hm, rfl, HD⟩ := hrel
     by_cases hml : m < (mk s).size
     ·have HX := Lib.hid (at_text (mk s) m hml)
      have hbd := byteAt_bd s m
      have HI : Hid (isId (s.getD m 0) = idB (byteAt s m)) := (idB_at _).symm
      rw [mk_list] at HX
      rw [← HX.out] at hbd HI
      obtain ⟨hx0, hx1⟩ := hbd
      go_wp2_with fail
      refine (ref_byte_any _ _ hx0 hx1).mono ?_
      rintro e w' ⟨rfl, rfl⟩
      cases h1 : idB ((mk s)[m].toNat : Int)
      ·have HF : Hid (goodFrom pre xs 0 = false) := by
        unfold Hid
        rw [← HG.out]
        exact HSP.out (.inr (lead_no hml (by rw [HI.out]; exact h1)))
       have H1 := Lib.hid h1; clear h1
       go_wp2
       go_ret
       exact ⟨by rw [HF.out]; rfl, rfl⟩
      ·have HN : Hid (∀ j, j < m + 1 → isId (s.getD j 0) = true) := fun j hj => by
        rcases Nat.lt_or_ge j m with hj1 | hj1
        ·exact HD.out j hj1
        ·obtain rfl : j = m := by omega
         rw [HI.out]; exact h1
       have H1 := Lib.hid h1; clear h1
       go_wp2
       exact ⟨⟨m + 1, by omega, by go_num, HN.out⟩, by simp [intOf]; omega⟩
     ·have HF : Hid (goodFrom pre (xs.drop (k + 1)) (k + 1) = goodFrom pre xs 0) := by
       unfold Hid
       rw [← HG.out, ← HST2.out (lead_yes (fun j hj => HD.out j (by have : (mk s).size = s.length := rfl; omega)))]
      go_wp2
      exact ⟨⟨k + 1, by omega, by go_num, HF.out⟩, by simp [intOf]; omega⟩
   ·have HF : Hid (goodFrom pre xs 0 = false) := by
     unfold Hid
     rw [← HG.out]
     exact HSP.out (.inl hf0)
    go_wp2
    go_ret
    exact ⟨by rw [HF.out]; rfl, rfl⟩
  ·have HF : Hid (goodFrom pre xs 0 = true) := by
    unfold Hid
    rw [← HG.out, List.drop_eq_nil_of_le (by rw [HL.out]; omega), goodFrom]
   go_wp2
   go_ret
   exact ⟨by rw [HF.out]; rfl, rfl⟩
end Go.Proofs.YtgfbflnhjpbceaaGreatDoor.Ident
namespace Go.Proofs.YtgfbflnhjpbceaaGreatDoor.Semver
open Go.RowKit Num Ident

theorem refGood_all (v : Ver) (A : Option Addr) (c : Nat) (B : Option Addr) (d : Nat) (w : World) (hr1 : SRow w A v.pre.length v.pre) (hr2 : SRow w B v.build.length v.build) (hn1 : v.pre.length ≤ maxLen) (hn2 : v.build.length ≤ maxLen) (hs1 : ∀ x ∈ v.pre, x.length ≤ maxLen) (hs2 : ∀ x ∈ v.build, x.length ≤ maxLen) :
  Calls Tryz.prog 27 #[.agg #[.int .u64 (v.a : Int), .int .u64 (v.b : Int), .int .u64 (v.c : Int), .slice A v.pre.length c, .slice B v.build.length d]] w fun e w' => e = .returned (.bool (goodV v)) ∧ Below w.heap.size w w' := by
 have HBa : Hid (Below w.heap.size w (w.alloc (.cells #[.int .u64 (v.a : Int), .int .u64 (v.b : Int), .int .u64 (v.c : Int), .slice A v.pre.length c, .slice B v.build.length d] 25))) := (Below.refl _ _).alloc (Nat.le_refl _) _
 have R1 := Lib.hid (hr1.kept HBa.out)
 have R2 := Lib.hid (hr2.kept HBa.out)
 have S1 := Lib.hid hs1
 have S2 := Lib.hid hs2
 have N1 := Lib.hid hn1
 have N2 := Lib.hid hn2
 have HG : Hid (goodV v = (heldB v.a v.b v.c && (goodFrom true v.pre 0 && goodFrom false v.build 0))) := rfl
 clear hr1 hr2 hs1 hs2 hn1 hn2
 by_cases h1 : (v.a : Int) < 9223372036854775808
 ·by_cases h2 : (v.b : Int) < 9223372036854775808
  ·by_cases h3 : (v.c : Int) < 9223372036854775808
   ·have HH := Lib.hid (held_all h1 h2 h3)
    go_enter Tryz.func27, Tryz.ntmps27
    go_wp2_with fail
    refine (ref_good_all _ _ _ v.pre true _ R1.out N1.out S1.out).mono ?_
    rintro e w' ⟨rfl, rfl⟩
    generalize goodFrom true v.pre 0 = g2 at HG ⊢
    cases g2
    ·go_wp2
     go_ret
     exact ⟨by rw [HG.out, HH.out]; rfl, HBa.out⟩
    go_wp2_with fail
    refine (ref_good_all _ _ _ v.build false _ R2.out N2.out S2.out).mono ?_
    rintro e w' ⟨rfl, rfl⟩
    go_wp2
    go_ret
    exact ⟨by rw [HG.out, HH.out]; simp, HBa.out⟩
   ·have HH := Lib.hid (held_not3 (x := v.a) (y := v.b) h3)
    go_enter Tryz.func27, Tryz.ntmps27
    go_wp2
    go_ret
    exact ⟨by rw [HG.out, HH.out]; rfl, HBa.out⟩
  ·have HH := Lib.hid (held_not2 (x := v.a) (z := v.c) h2)
   go_enter Tryz.func27, Tryz.ntmps27
   go_wp2
   go_ret
   exact ⟨by rw [HG.out, HH.out]; rfl, HBa.out⟩
 ·have HH := Lib.hid (held_not1 (y := v.b) (z := v.c) h1)
  go_enter Tryz.func27, Tryz.ntmps27
  go_wp2
  go_ret
  exact ⟨by rw [HG.out, HH.out]; rfl, HBa.out⟩
end Go.Proofs.YtgfbflnhjpbceaaGreatDoor.Semver
