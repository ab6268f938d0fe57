/-
  What the theorem of the last text needs of these: IdWalks, IdGood, IdTexts, NumText. Conditions: as each theorem states.
-/
import Derived.Test.YtgfbflnhjpbceaaGreatDoorHasB1
import Derived.Test.YtgfbflnhjpbceaaGreatDoorHasB2
import Derived.Test.YtgfbflnhjpbceaaGreatDoorHasB3
import Derived.StillTailTactics
import Derived.Deep.CutBlock
import Derived.Deep.DeepCutAuto
import Derived.Deep.RegionHeld3
import Derived.Test.YtgfbflnhjpbceaaGreatDoorShelfJoin
import Derived.Test.YtgfbflnhjpbceaaGreatDoorShelf
import Derived.Lib.ItoaMem
import Derived.Lib.ItoaLen
set_option maxRecDepth 100000
set_option maxHeartbeats 25600000
namespace Go.Proofs.YtgfbflnhjpbceaaGreatDoor.Ident
open Go.RowKit Num

theorem letter_any (x : Int) (w : World) (h0 : 0 ≤ x) (h1 : x ≤ 255) :
  Calls Tryz.prog 129 #[.int .u8 x] w fun e w' => e = .returned (.bool (letB x)) ∧ w = w' := by
 by_cases ha : 65 ≤ x
 ·by_cases hb : x ≤ 90
  ·have HF := Lib.hid (letB_yes (.inl ⟨ha, hb⟩))
   go_enter Tryz.func129, Tryz.ntmps129
   go_wp2
   go_ret
   exact ⟨by rw [HF.out]; rfl, rfl⟩
  ·by_cases hc : 97 ≤ x
   ·by_cases hd : x ≤ 122
    ·have HF := Lib.hid (letB_yes (.inr ⟨hc, hd⟩))
     go_enter Tryz.func129, Tryz.ntmps129
     go_wp2
     go_ret
     exact ⟨by rw [HF.out]; rfl, rfl⟩
    ·have HF := Lib.hid (letB_no (x := x) (by omega))
     go_enter Tryz.func129, Tryz.ntmps129
     go_wp2
     go_ret
     exact ⟨by rw [HF.out]; rfl, rfl⟩
   ·have HF := Lib.hid (letB_no (x := x) (by omega))
    go_enter Tryz.func129, Tryz.ntmps129
    go_wp2
    go_ret
    exact ⟨by rw [HF.out]; rfl, rfl⟩
 ·have hc : ¬ 97 ≤ x := by omega
  have HF := Lib.hid (letB_no (x := x) (by omega))
  go_enter Tryz.func129, Tryz.ntmps129
  go_wp2
  go_ret
  exact ⟨by rw [HF.out]; rfl, rfl⟩
def LenJ (w : World) (A : Option Addr) (n c : Nat) (l : List UInt8) (a' : Act) (w' : World) : Prop :=
 w = w' ∧ ∃ (k : Nat) (u4 u5 u6 u7 u8 u9 u10 u11 u12 u13 u14 u15 u16 u17 u18 u19 u20 u21 u22 u23 u24 u25 u26 u27 u28 u29 u30 u31 : Value), k ≤ n ∧ (∀ j, j < k → isId (l.getD j 0) = true) ∧ a' = { tmps := #[.slice A n c, undef, .int .i64 0, .int .i64 k, u4, u5, u6, u7, u8, u9, u10, u11, u12, u13, u14, u15, u16, u17, u18, u19, u20, u21, u22, u23, u24, u25, u26, u27, u28, u29, u30, u31], defers := [] }
def LenM (n : Nat) (a' : Act) (_ : World) : Nat := n - (intOf (a'.tmps.getD 3 undef)).toNat
theorem length_any (A : Option Addr) (n c : Nat) (l : List UInt8) (w : World) (h : Row w A n l) :
  Calls Tryz.prog 105 #[.slice A n c] w fun e w' => e = .returned (.int .i64 (lead l)) ∧ w = w' := by
 obtain ⟨hl, hm, hc⟩ := h
 unfold maxLen at hm
 have HC := Lib.hid hc; clear hc
 have HL := Lib.hid hl; clear hl
 go_enter Tryz.func105, Tryz.ntmps105
 go_wp2
 refine wp_scope_back 0 (LenJ w A n c l) (LenM n) rfl ?_ ?_
 ·rintro a' w' ⟨rfl, k, u4, u5, u6, u7, u8, u9, u10, u11, u12, u13, u14, u15, u16, u17, u18, u19, u20, u21, u22, u23, u24, u25, u26, u27, u28, u29, u30, u31, hk, hd, rfl⟩
  have HD := Lib.hid hd; clear hd
  by_cases hlt : k < n
  ·obtain ⟨b, o, rfl, hb, hcell⟩ := HC.out (by omega)
   have hx := hcell k hlt
   clear hcell HC
   have hbd := byteAt_bd l k
   have HI : Hid (isId (l.getD k 0) = idB (byteAt l k)) := (idB_at _).symm
   generalize byteAt l k = x at hx hbd HI
   obtain ⟨hx0, hx1⟩ := hbd
   have HN : Hid (idB x = true → ∀ j, j < k + 1 → isId (l.getD j 0) = true) := fun hi j hj => by
    rcases Nat.lt_or_ge j k with hj1 | hj1
    ·exact HD.out j hj1
    ·obtain rfl : j = k := by omega
     rw [HI.out]; exact hi
   have HS : Hid (idB x = false → lead l = k) := fun hn => lead_stop l k (by rw [HL.out]; omega) HD.out (.inr (by rw [HI.out]; exact hn))
   go_wp2_with fail
   refine (digit_any _ _ hx0 hx1).mono ?_
   rintro e w' ⟨rfl, rfl⟩
   cases h1 : digB x
   ·have H1 := Lib.hid h1; clear h1
    go_wp2_with fail
    refine (letter_any _ _ hx0 hx1).mono ?_
    rintro e w' ⟨rfl, rfl⟩
    cases h2 : letB x
    ·have H2 := Lib.hid h2; clear h2
     by_cases h3 : x = 45
     ·have hb3 : (x == 45) = true := by simp [h3]
      have H3 := Lib.hid hb3
      have H4 := Lib.hid h3; clear h3
      go_wp2
      go_step3
      rw [show ((k : Int) + 1) = ((k + 1 : Nat) : Int) from rfl]
      refine ⟨rfl, ⟨rfl, k + 1, _, _, _, _, _, _, _, _, _, _, _, _, _, _, _, _, _, _, _, _, _, _, _, _, _, _, _, _, by omega, HN.out (by unfold idB; rw [H3.out]; simp), rfl⟩, ?_⟩
      simp [LenM, intOf]; omega
     ·have hb3 : (x == 45) = false := by simp [h3]
      have H3 := Lib.hid hb3
      clear h3
      go_wp2
      simp only [Exit.jump]
      go_ret
      exact ⟨ret_int (by rw [HS.out (by unfold idB; rw [H1.out, H2.out, H3.out]; rfl)]), rfl⟩
    ·have H2 := Lib.hid h2; clear h2
     go_wp2
     go_step3
     rw [show ((k : Int) + 1) = ((k + 1 : Nat) : Int) from rfl]
     refine ⟨rfl, ⟨rfl, k + 1, _, _, _, _, _, _, _, _, _, _, _, _, _, _, _, _, _, _, _, _, _, _, _, _, _, _, _, _, by omega, HN.out (by unfold idB; rw [H2.out]; simp), rfl⟩, ?_⟩
     simp [LenM, intOf]; omega
   ·have H1 := Lib.hid h1; clear h1
    go_wp2
    go_step3
    rw [show ((k : Int) + 1) = ((k + 1 : Nat) : Int) from rfl]
    refine ⟨rfl, ⟨rfl, k + 1, _, _, _, _, _, _, _, _, _, _, _, _, _, _, _, _, _, _, _, _, _, _, _, _, _, _, _, _, by omega, HN.out (by unfold idB; rw [H1.out]; rfl), rfl⟩, ?_⟩
    simp [LenM, intOf]; omega
  ·have HS : Hid (lead l = k) := lead_stop l k (by rw [HL.out]; omega) HD.out (.inl (by rw [HL.out]; omega))
   go_wp2
   simp only [Exit.jump]
   go_ret
   exact ⟨ret_int (by rw [HS.out]), rfl⟩
 ·intro HP
  go_wp2
  go_step3
  rename_i hK
  exact hK _ _ (HP.out _ _ ⟨rfl, 0, _, _, _, _, _, _, _, _, _, _, _, _, _, _, _, _, _, _, _, _, _, _, _, _, _, _, _, _, by omega, (fun j hj => by omega), rfl⟩)
theorem fault_any (s : ByteArray) (i : Nat) (pre : Bool) (w : World) (hs : s.size ≤ maxLen) (hi : i ≤ maxLen) :
  Calls Tryz.prog 104 #[.string s, .int .i64 i, .bool pre] w fun e w' => e = .returned (.int .i64 (fault s.data.toList i pre)) ∧ Below w.heap.size w w' := by
 have HS := Lib.hid hs
 unfold maxLen at hs hi
 have HL := Lib.hid (Lib.size_eq s)
 by_cases h0 : s.size = 0
 ·have HF := Lib.hid (fault_5 (s := s.data.toList) i pre (by rw [← HL.out]; exact h0))
  have hem := (empty_iff s).2 h0
  have H0 := Lib.hid h0; clear h0
  go_enter Tryz.func104, Tryz.ntmps104
  go_wp2
  go_ret
  exact ⟨by rw [HF.out]; rfl, Below.refl _ _⟩
 ·have hem := (empty_no s).2 h0
  have H0 : Hid (s.data.toList.length ≠ 0) := by unfold Hid; rw [← HL.out]; exact h0
  clear h0
  by_cases h1 : 255 < s.size
  ·have HF := Lib.hid (fault_4 (s := s.data.toList) (i := i) pre H0.out (.inl (by rw [← HL.out]; exact h1)))
   go_enter Tryz.func104, Tryz.ntmps104
   go_wp2
   go_ret
   exact ⟨by rw [HF.out]; rfl, Below.refl _ _⟩
  ·by_cases h2 : 16 ≤ i
   ·have HF := Lib.hid (fault_4 (s := s.data.toList) (i := i) pre H0.out (.inr h2))
    go_enter Tryz.func104, Tryz.ntmps104
    go_wp2
    go_ret
    exact ⟨by rw [HF.out]; rfl, Below.refl _ _⟩
   ·have H12 : Hid (¬ (255 < s.data.toList.length ∨ 16 ≤ i)) := by unfold Hid; rw [← HL.out]; omega
    cases pre
    ·have HF := Lib.hid (fault_0 (s := s.data.toList) (i := i) (pre := false) H0.out H12.out (by simp))
     go_enter Tryz.func104, Tryz.ntmps104
     go_wp2
     go_ret
     exact ⟨by rw [HF.out]; rfl, Below.refl _ _⟩
    ·cases h3 : numeric s.data.toList
     ·have HF := Lib.hid (fault_0 (s := s.data.toList) (i := i) (pre := true) H0.out H12.out (by simp [h3]))
      have H3 := Lib.hid h3; clear h3
      go_enter Tryz.func104, Tryz.ntmps104
      go_wp2_with fail
      refine (numeric_any s _ HS.out).mono ?_
      rintro e w' ⟨rfl, rfl⟩
      rw [H3.out]
      go_wp2
      go_ret
      exact ⟨by rw [HF.out]; rfl, Below.refl _ _⟩
     ·cases h4 : isNum s.data.toList
      ·have HF := Lib.hid (fault_3 (s := s.data.toList) (i := i) (pre := true) H0.out H12.out ⟨rfl, h3, h4⟩)
       have H3 := Lib.hid h3; clear h3
       have H4 := Lib.hid h4; clear h4
       go_enter Tryz.func104, Tryz.ntmps104
       go_wp2_with fail
       refine (numeric_any s _ HS.out).mono ?_
       rintro e w' ⟨rfl, rfl⟩
       rw [H3.out]
       go_wp2_with fail
       refine (is_any s _ HS.out).mono ?_
       rintro e w1 ⟨rfl, hb1⟩
       rw [H4.out]
       go_wp2
       go_ret
       exact ⟨by rw [HF.out]; rfl, hb1⟩
      ·have HF := Lib.hid (fault_0 (s := s.data.toList) (i := i) (pre := true) H0.out H12.out (by simp [h4]))
       have H3 := Lib.hid h3; clear h3
       have H4 := Lib.hid h4; clear h4
       go_enter Tryz.func104, Tryz.ntmps104
       go_wp2_with fail
       refine (numeric_any s _ HS.out).mono ?_
       rintro e w' ⟨rfl, rfl⟩
       rw [H3.out]
       go_wp2_with fail
       refine (is_any s _ HS.out).mono ?_
       rintro e w1 ⟨rfl, hb1⟩
       rw [H4.out]
       go_wp2
       go_ret
       exact ⟨by rw [HF.out]; rfl, hb1⟩
end Go.Proofs.YtgfbflnhjpbceaaGreatDoor.Ident
namespace Go.Proofs.YtgfbflnhjpbceaaGreatDoor.Ident
open Go.RowKit Num

def GoodJ (w : World) (A : Option Addr) (n c : Nat) (pre : Bool) (xs : List (List UInt8)) (a' : Act) (w' : World) : Prop :=
 ∃ (k : Nat) (u6 u7 u8 u9 u10 u11 u12 u13 u14 u15 u16 u17 u18 u19 u20 u21 u22 u23 u24 u25 u26 u27 u28 u29 u30 u31 u32 u33 : Value), Below w.heap.size w w' ∧ k ≤ n ∧ goodFrom pre (xs.drop k) k = goodFrom pre xs 0 ∧
  a' = { tmps := #[.slice A n c, .bool pre, undef, undef, .bool false, .int .i64 k, u6, u7, u8, u9, u10, u11, u12, u13, u14, u15, u16, u17, u18, u19, u20, u21, u22, u23, u24, u25, u26, u27, u28, u29, u30, u31, u32, u33], defers := [] }
def GoodM (n : Nat) (a' : Act) (_ : World) : Nat := n - (intOf (a'.tmps.getD 5 undef)).toNat
theorem good_any (A : Option Addr) (n c : Nat) (xs : List (List UInt8)) (pre : Bool) (w : World) (hr : SRow w A n xs) (hn : n ≤ maxLen) (hx : ∀ x ∈ xs, x.length ≤ maxLen) :
  Calls Tryz.prog 72 #[.slice A n c, .bool pre] w fun e w' => e = .returned (.bool (goodFrom pre xs 0)) ∧ Below w.heap.size w w' := by
 have HN := Lib.hid hn
 unfold maxLen at hn
 have HR := Lib.hid hr
 have HLX := Lib.hid hr.1
 have HX := Lib.hid hx
 clear hr hx
 go_enter Tryz.func72, Tryz.ntmps72
 go_wp2
 refine wp_scope_back 0 (GoodJ w A n c pre xs) (GoodM n) rfl ?_ ?_
 ·rintro a' w1 ⟨k, u6, u7, u8, u9, u10, u11, u12, u13, u14, u15, u16, u17, u18, u19, u20, u21, u22, u23, u24, u25, u26, u27, u28, u29, u30, u31, u32, u33, hb1, hk, hgo, rfl⟩
  have HB1 := Lib.hid hb1
  have HG := Lib.hid hgo
  clear hb1 hgo
  have hz1 := HB1.out.size
  by_cases h1 : k = n
  ·have HF : Hid (goodFrom pre xs 0 = true) := by
    unfold Hid
    rw [← HG.out, List.drop_eq_nil_of_le (by rw [HLX.out, h1]; exact Nat.le_refl _), goodFrom]
   have hb : ((k : Int) == (n : Int)) = true := by simp [h1]
   clear h1
   go_wp2
   simp only [Exit.jump]
   go_ret
   exact ⟨by rw [HF.out]; rfl, HB1.out⟩
  have hlt : k < n := by omega
  have hb : ((k : Int) == (n : Int)) = false := by simp; omega
  clear h1
  obtain ⟨g, o, rfl, hg, hc1⟩ := (HR.out.kept HB1.out).2 (by omega)
  have hx1 := hc1 k hlt
  clear hc1
  have HKL : Hid (k < xs.length) := by unfold Hid; rw [HLX.out]; exact hlt
  have HST := Lib.hid (fun h1 h2 => goodFrom_step (pre := pre) HKL.out h1 h2)
  have HSP := Lib.hid (fun h => goodFrom_stop (pre := pre) HKL.out h)
  have HZ := Lib.hid (HX.out (xs.getD k []) (by have h := HKL.out; simp [List.getD, List.getElem?_eq_getElem h]))
  have HKM : Hid (k ≤ maxLen) := by have := HN.out; unfold Hid; omega
  generalize xs.getD k [] = s at hx1 HST HSP HZ
  obtain ⟨f, hf⟩ : ∃ f, fault s k pre = f := ⟨_, rfl⟩
  have HFA : Hid (∀ W, Calls Tryz.prog 104 #[.string (mk s), .int .i64 k, .bool pre] W fun e w' => e = .returned (.int .i64 f) ∧ Below W.heap.size W w') := fun W => by
   have := fault_any (mk s) k pre W HZ.out HKM.out
   rw [mk_list, hf] at this; exact this
  rw [hf] at HST HSP
  clear hf
  go_upto_region 4 with (fail)
  go_cut [31] (fun x wx => x = .bool (!(f == 0 && lead s == s.length)) ∧ Below w.heap.size w wx)
  case first =>
   by_cases hf0 : f = 0
   ·subst hf0
    have HF : Hid ((!((0 : Nat) == 0 && lead s == s.length)) = (((lead s : Nat) : Int) != (s.length : Int))) := by
     unfold Hid
     rw [Bool.eq_iff_iff]; simp; omega
    refine wp_region_held_drew (S := fun w' => w'.cell? ⟨g, o + k, none⟩ = some (.string (mk s))) (by kernel_rfl) hx1 (fun hHeld => ?_)
    refine tk 0 rfl (.slice (some ⟨g, o, none⟩) n c) ?_
    refine tk 1 rfl (.int .i64 k) ?_
    refine tk 2 rfl (.pointer (some ⟨g, o + k, none⟩)) ?_
    refine tk 3 rfl (.string (mk s)) ?_
    refine tk 4 rfl (.int .i64 k) ?_
    refine tk 5 rfl (.bool pre) ?_
    refine cl 6 rfl fun K hK => ?_
    go_simp
    refine (HFA.out _).mono ?_
    rintro e w2 ⟨rfl, hb2⟩
    have hx2 : w2.cell? ⟨g, o + k, none⟩ = some (.string (mk s)) := (hb2.cell (p := ⟨g, o + k, none⟩) (by simpa using hg)).trans (by simpa using hx1)
    obtain ⟨cc, W, hcc, hcv, hrr, hbW⟩ := run_bytes w2 (mk s) HZ.out
    have hxW : W.cell? ⟨g, o + k, none⟩ = some (.string (mk s)) := (hbW.cell (p := ⟨g, o + k, none⟩) (Nat.lt_of_lt_of_le (by simpa using hg) hb2.size)).trans hx2
    have HBB := Lib.hid ((HB1.out.drew.trans (hb2.mono hz1)).trans (hbW.mono (Nat.le_trans hz1 hb2.size)))
    have HRR := Lib.hid hrr
    clear hb2 hrr hbW
    refine hK.out _ _ hx2 (fun hHeld => ?_)
    clear hK K
    try simp only [Act.put, p1, p2, p3]
    refine tk 7 rfl (.bool false) ?_
    refine tk 8 rfl (.bool false) ?_
    refine tk 9 rfl (.slice (some ⟨g, o, none⟩) n c) ?_
    refine tk 10 rfl (.int .i64 k) ?_
    refine tk 11 rfl (.pointer (some ⟨g, o + k, none⟩)) ?_
    refine tk 12 rfl (.string (mk s)) ?_
    refine tk 15 rfl (.slice (some ⟨g, o, none⟩) n c) ?_
    refine tk 16 rfl (.int .i64 k) ?_
    refine tk 17 rfl (.pointer (some ⟨g, o + k, none⟩)) ?_
    refine tk 18 rfl (.string (mk s)) ?_
    refine tk 19 rfl (.int .i64 (mk s).size) ?_
    refine cl 13 rfl fun K hK => ?_
    go_simp
    refine hK.out _ _ hxW (fun hHeld => ?_)
    clear hK K
    try simp only [Act.put, p1, p2, p3]
    refine cl 14 rfl fun K hK => ?_
    go_simp
    refine (length_any _ _ _ _ _ HRR.out).mono ?_
    rintro e w3 ⟨rfl, rfl⟩
    refine hK.out _ _ hxW (fun hHeld => ?_)
    clear hK K
    try simp only [Act.put, p1, p2, p3]
    refine tk 20 rfl (.bool (((lead s : Nat) : Int) != (s.length : Int))) ?_ fun w' hS' => by (go_simp; rfl)
    refine tk 21 rfl (.bool (((lead s : Nat) : Int) != (s.length : Int))) ?_
    refine wpAnyH_done (by kernel_rfl) ?_ _
    go_wp2
    go_meet
    exact ⟨by rw [HF.out], HBB.out⟩
   ·have hn1 : ((f : Int) == 0) = false := by simp [hf0]
    have hn2 : ((f : Int) != 0) = true := by simp [hf0]
    have HF : Hid ((!(f == 0 && lead s == s.length)) = true) := by unfold Hid; simp [hf0]
    refine wp_region_held_drew (S := fun w' => w'.cell? ⟨g, o + k, none⟩ = some (.string (mk s))) (by kernel_rfl) hx1 (fun hHeld => ?_)
    refine tk 0 rfl (.slice (some ⟨g, o, none⟩) n c) ?_
    refine tk 1 rfl (.int .i64 k) ?_
    refine tk 2 rfl (.pointer (some ⟨g, o + k, none⟩)) ?_
    refine tk 3 rfl (.string (mk s)) ?_
    refine tk 4 rfl (.int .i64 k) ?_
    refine tk 5 rfl (.bool pre) ?_
    refine cl 6 rfl fun K hK => ?_
    go_simp
    refine (HFA.out _).mono ?_
    rintro e w2 ⟨rfl, hb2⟩
    have hx2 : w2.cell? ⟨g, o + k, none⟩ = some (.string (mk s)) := (hb2.cell (p := ⟨g, o + k, none⟩) (by simpa using hg)).trans (by simpa using hx1)
    have HBB := Lib.hid (HB1.out.drew.trans (hb2.mono hz1))
    clear hb2
    refine hK.out _ _ hx2 (fun hHeld => ?_)
    clear hK K
    try simp only [Act.put, p1, p2, p3]
    refine tk 7 rfl (.bool true) ?_
    refine tk 8 rfl (.bool true) ?_
    refine sk 9 rfl ?_
    refine sk 10 rfl ?_
    refine sk 11 rfl ?_
    refine sk 12 rfl ?_
    refine sk 13 rfl ?_
    refine sk 14 rfl ?_
    refine sk 15 rfl ?_
    refine sk 16 rfl ?_
    refine sk 17 rfl ?_
    refine sk 18 rfl ?_
    refine sk 19 rfl ?_
    refine sk 20 rfl ?_
    refine tk 21 rfl (.bool true) ?_
    refine wpAnyH_done (by kernel_rfl) ?_ _
    go_wp2
    go_meet
    exact ⟨by rw [HF.out], HBB.out⟩
  case rest =>
   obtain ⟨rfl, hbx⟩ := hcut
   have HBX := Lib.hid hbx; clear hbx
   cases hq : (f == 0 && lead s == s.length)
   ·have HF : Hid (goodFrom pre xs 0 = false) := by
     unfold Hid
     rw [← HG.out]
     apply HSP.out
     rw [Bool.and_eq_false_iff] at hq
     rcases hq with h | h
     ·exact .inl (by simpa using h)
     ·exact .inr (by simpa using h)
    clear hq
    simp only [Bool.not_false]
    go_wp2
    simp only [Exit.jump]
    go_ret
    exact ⟨by rw [HF.out]; rfl, HBX.out⟩
   ·have HF : Hid (goodFrom pre (xs.drop (k + 1)) (k + 1) = goodFrom pre xs 0) := by
     unfold Hid
     rw [Bool.and_eq_true, beq_iff_eq, beq_iff_eq] at hq
     rw [← HG.out, ← HST.out hq.1 hq.2]
    clear hq
    simp only [Bool.not_true]
    go_wp2
    go_step3
    rw [show ((k : Int) + 1) = ((k + 1 : Nat) : Int) from rfl]
    refine ⟨rfl, ⟨k + 1, _, _, _, _, _, _, _, _, _, _, _, _, _, _, _, _, _, _, _, _, _, _, _, _, _, _, _, _, HBX.out, by omega, HF.out, rfl⟩, ?_⟩
    simp [GoodM, intOf]; omega
 ·intro HP
  go_wp2
  go_step3
  rename_i hK
  exact hK _ _ (HP.out _ _ ⟨0, _, _, _, _, _, _, _, _, _, _, _, _, _, _, _, _, _, _, _, _, _, _, _, _, _, _, _, _, Below.refl _ _, by omega, rfl, rfl⟩)
end Go.Proofs.YtgfbflnhjpbceaaGreatDoor.Ident
namespace Go.Proofs.YtgfbflnhjpbceaaGreatDoor.Ident
open Go.RowKit Num

theorem text_any (A : Option Addr) (n c : Nat) (xs : List (List UInt8)) (w : World) (hr : SRow w A n xs) (hc : n ≤ c) (hs : shortB xs = true) :
  Calls Tryz.prog 146 #[.slice A n c] w fun e w' => e = .returned (.string (mk (joined xs))) ∧ Below w.heap.size w w' := by
 have HJ : Hid (∀ W, W = w → Calls Tryz.prog 164 #[.slice A n c, .string ⟨#[46]⟩] W fun e w' => e = .returned (.string (mk (joined xs))) ∧ Below w.heap.size w w') := by
  rintro W rfl
  have hn := hr.1
  rw [shortB_iff] at hs
  have hle := joined_le xs hs.2
  rcases Nat.eq_zero_or_pos n with h0 | h0
  ·subst h0
   have e : xs = [] := List.eq_nil_of_length_eq_zero hn
   subst e
   refine (Tryz.strings_Join_none A c ⟨#[46]⟩ W).mono ?_
   rintro e w' ⟨rfl, rfl⟩
   exact ⟨rfl, Below.refl _ _⟩
  ·obtain ⟨b, o, rfl, hb, hcell⟩ := hr.2 h0
   have e1 : (xs.map mk).map (fun x : ByteArray => x.data.toList) = xs := by
    rw [List.map_map]; exact List.map_id xs
   have := Tryz.strings_Join b o c (xs.map mk) ⟨#[46]⟩ W (fun j x hx => by
    have hj : j < xs.length := by have := (List.getElem?_eq_some_iff.1 hx).1; rwa [List.length_map] at this
    have hx2 : x = mk (xs.getD j []) := by
     rw [List.getElem?_map, List.getElem?_eq_getElem hj] at hx
     simp at hx
     rw [← hx]; simp [List.getD, List.getElem?_eq_getElem hj]
    rw [hx2]; exact hcell j (by omega)) hb (by rw [List.length_map]; omega) (by rw [List.length_map]; omega) (by
     rw [e1]
     show (joined xs).length ≤ _
     omega)
   rw [e1, List.length_map, hn] at this
   exact this
 clear hr hs
 go_enter Tryz.func146, Tryz.ntmps146
 go_wp2_with fail
 refine (HJ.out _ rfl).mono ?_
 rintro e w1 ⟨rfl, hb1⟩
 go_wp2
 go_ret
 exact ⟨rfl, hb1⟩
end Go.Proofs.YtgfbflnhjpbceaaGreatDoor.Ident
namespace Go.Proofs.YtgfbflnhjpbceaaGreatDoor.Num
open Go.RowKit Go.Sort

def Tab (w : World) : Prop := Lib.TabIs Tryz.prog w "internal/strconv.uint64pow10" .u64 Lib.pow10Tab
theorem Tab.kept {w w' : World} (h : Tab w) (hb : Below w.heap.size w w') : Tab w' := by
 unfold Tab Lib.TabIs World.var? at *
 cases hg : Tryz.prog.globalNamed "internal/strconv.uint64pow10" with
 | none => simp [hg] at h
 | some g =>
  simp only [hg, Option.bind_some] at h ⊢
  have hlt : g < w.heap.size := by
   rcases Nat.lt_or_ge g w.heap.size with h' | h'
   ·exact h'
   ·rw [Array.getElem?_eq_none h'] at h; simp at h
  rw [hb.block g hlt]
  exact h

theorem below_grow (w : World) (k : Nat) (os : Array Obj) : Below w.heap.size w (grow (w.drewN k) os) := by
 refine ⟨rfl, rfl, rfl, ?_, fun j hj => ?_⟩
 ·show w.heap.size ≤ (w.heap ++ os).size
  simp
 ·show (w.heap ++ os)[j]? = _
  rw [Array.getElem?_append_left hj]

theorem holds_zero0 (w : World) (T : TypeId) (nd : Nat) (hs : nd ≤ 24) : Holds (fun (b : UInt8) => Value.int .u8 (b.toNat : Int)) (w.alloc (.cells Lib.zeros24 T)) w.heap.size 0 (Array.replicate nd (0 : UInt8)) := fun j hj => by
 have hj' : j < nd := by simpa using hj
 refine ⟨?_, World.frozen?_alloc_new _ _ _ _⟩
 rw [World.cell?_alloc_new, Lib.zeros24_at _ (by omega), getElem!_pos _ j hj]
 simp

theorem fmt_any (u : Nat) (h : u < 18446744073709551616) (w : World) (htab : Tab w) :
  Calls Tryz.prog 163 #[.int .u64 u, .int .i64 10] w fun e w' => e = .returned (.string ⟨(Lib.decDigits u).toArray⟩) ∧ Below w.heap.size w w' := by
 have HU := Lib.hid h; clear h
 by_cases hs : u < 100
 ·go_enter Tryz.func163, Tryz.ntmps163
  go_wp2_with fail
  refine (Tryz.internal_strconv_small u hs _).mono ?_
  rintro e w' ⟨rfl, rfl⟩
  go_wp2
  go_ret
  exact ⟨rfl, Below.refl _ _⟩
 ·have hu1 : 1 ≤ u := by omega
  have hnd := Lib.nDigits_le20 u HU.out
  have hal : Tryz.prog.arrayLen 188 = 24 := by simp [Program.arrayLen, Tryz.underlying188]
  have hsl : ∀ W, (Instr.sliceAt 188 (.pointer (some ⟨w.heap.size, 0, none⟩)) none (some (.int .i64 (Lib.nDigits u : Int))) none).run Tryz.prog W = .ok (.slice (some ⟨w.heap.size, 0, none⟩) (Lib.nDigits u) 24) W := fun W => by
   rw [run_sliceAt_array_h W 188 ⟨w.heap.size, 0, none⟩ (by simp [Program.arrayLen, Program.elem, Tryz.underlying188]) .i64 (Lib.nDigits u : Int) (by omega) (by rw [hal]; omega)]
   go_simp
  have hH0 := holds_zero0 w 188 (Lib.nDigits u) (by omega)
  have hfmt := Tryz.internal_strconv_formatBase10 w.heap.size 0 24 u (Array.replicate (Lib.nDigits u) 0) (w.alloc (.cells Lib.zeros24 188)) hH0 (by rw [Array.size_replicate]; exact Lib.lt_pow_nDigits u) HU.out (by rw [Array.size_replicate]; omega)
  rw [Array.size_replicate] at hfmt
  have HH0 := Lib.hid hH0
  have HFMT := Lib.hid hfmt
  have HT := Lib.hid htab
  clear hH0 hal hfmt htab
  go_enter Tryz.func163, Tryz.ntmps163
  go_wp2_with fail
  refine (Tryz.internal_strconv_numDigits u hu1 HU.out _ (Lib.tabIs_alloc HT.out _)).mono ?_
  rintro e w' ⟨rfl, rfl⟩
  go_wp2_with fail
  refine HFMT.out.mono ?_
  rintro e w' ⟨rfl, k, v', dk, rfl, hF⟩
  have hcv : (convert 68 9 (.slice (some ⟨w.heap.size, 0, none⟩) (Lib.nDigits u) 24)).run Tryz.prog ((putRow (fun (b : UInt8) => Value.int .u8 (b.toNat : Int)) (w.alloc (.cells Lib.zeros24 188)) w.heap.size 0 dk).drewN k) = .ok (.string ⟨(Lib.decDigits u).toArray⟩) ((putRow (fun (b : UInt8) => Value.int .u8 (b.toNat : Int)) (w.alloc (.cells Lib.zeros24 188)) w.heap.size 0 dk).drewN k) := by
   have h := run_convert_bytes_back (P := Tryz.prog) ((putRow (fun (b : UInt8) => Value.int .u8 (b.toNat : Int)) (w.alloc (.cells Lib.zeros24 188)) w.heap.size 0 dk).drewN k) 68 9 5 ⟨w.heap.size, 0, none⟩ 24 (Lib.decDigits u) Tryz.underlying68 Tryz.underlying5 Tryz.underlying9 (fun j hj => by
    rw [Lib.row_is_numeral hF j hj, Lib.add_plain, World.cell?_drewN]
    exact cell?_putRow (fun (b : UInt8) => Value.int .u8 (b.toNat : Int)) _ w.heap.size 0 _ dk HH0.out (by rw [hF.size, Array.size_replicate]) j (by rw [hF.size]; rw [Lib.decDigits_length] at hj; exact hj))
   rw [Lib.decDigits_length] at h
   exact h
  have HB : Hid (Below w.heap.size w ((putRow (fun (b : UInt8) => Value.int .u8 (b.toNat : Int)) (w.alloc (.cells Lib.zeros24 188)) w.heap.size 0 dk).drewN k)) := by
   obtain ⟨os', _, e⟩ := putRow_grow_new (fun (b : UInt8) => Value.int .u8 (b.toNat : Int)) w #[.cells Lib.zeros24 188] w.heap.size 0 dk (Nat.le_refl _)
   unfold Hid
   rw [alloc_eq_grow, e]
   exact below_grow w k os'
  generalize (putRow (fun (b : UInt8) => Value.int .u8 (b.toNat : Int)) (w.alloc (.cells Lib.zeros24 188)) w.heap.size 0 dk).drewN k = W at hcv HB ⊢
  go_wp2
  go_ret
  exact ⟨rfl, HB.out⟩

theorem format_any (u : Nat) (h : u < 18446744073709551616) (w : World) (htab : Tab w) :
  Calls Tryz.prog 145 #[.int .u64 u, .int .i64 10] w fun e w' => e = .returned (.string ⟨(Lib.decDigits u).toArray⟩) ∧ Below w.heap.size w w' := by
 have HU := Lib.hid h; clear h
 have HT := Lib.hid htab; clear htab
 go_enter Tryz.func145, Tryz.ntmps145
 go_wp2_with fail
 refine (fmt_any u HU.out _ HT.out).mono ?_
 rintro e w1 ⟨rfl, hb1⟩
 go_wp2
 go_ret
 exact ⟨rfl, hb1⟩

theorem text_any (u : Nat) (h : u < 18446744073709551616) (w : World) (htab : Tab w) :
  Calls Tryz.prog 117 #[.int .u64 u] w fun e w' => e = .returned (.string ⟨(Lib.decDigits u).toArray⟩) ∧ Below w.heap.size w w' := by
 have HU := Lib.hid h; clear h
 have HT := Lib.hid htab; clear htab
 go_enter Tryz.func117, Tryz.ntmps117
 go_wp2_with fail
 refine (format_any u HU.out _ HT.out).mono ?_
 rintro e w1 ⟨rfl, hb1⟩
 go_wp2
 go_ret
 exact ⟨rfl, hb1⟩

theorem dec_all (u : Nat) : AllDig (Lib.decDigits u) := by
 induction u using Nat.strongRecOn with
 | _ u ih =>
  rw [Lib.decDigits]
  split
  ·rename_i h
   intro b hb
   simp only [List.mem_singleton] at hb
   subst hb
   rw [isDig_iff, UInt8.toNat_ofNat']; omega
  ·rename_i h
   intro b hb
   rw [List.mem_append] at hb
   rcases hb with hb | hb
   ·exact ih (u / 10) (by omega) b hb
   ·simp only [List.mem_singleton] at hb
    subst hb
    rw [isDig_iff, UInt8.toNat_ofNat']; omega
theorem dec_val (u : Nat) : val (Lib.decDigits u) = u := by
 induction u using Nat.strongRecOn with
 | _ u ih =>
  rw [Lib.decDigits]
  split
  ·rename_i h
   rw [val_cons]
   simp [UInt8.toNat_ofNat', val, valFrom]; omega
  ·rename_i h
   rw [val_snoc, ih (u / 10) (by omega), UInt8.toNat_ofNat']; omega
theorem dec_pos (u : Nat) : 0 < (Lib.decDigits u).length := by rw [Lib.decDigits_length]; exact Lib.nDigits_pos u
theorem nd_le : ∀ (k u : Nat), u < 10 ^ k → 1 ≤ k → Lib.nDigits u ≤ k
 | 0, _, _, h => by omega
 | k + 1, u, h1, _ => by
  by_cases h : u < 10
  ·rw [Lib.nDigits_small h]; omega
  ·rw [Lib.nDigits_big h]
   rw [Nat.pow_succ] at h1
   rcases Nat.eq_zero_or_pos k with h0 | h0
   ·subst h0; simp at h1; omega
   ·have := nd_le k (u / 10) (by omega) h0
    omega
theorem dec_pad (u : Nat) : pad (Lib.decDigits u) = false := by
 rw [pad_no]
 rintro ⟨h1, h2⟩
 rw [Lib.decDigits_length] at h1
 have hv := dec_val u
 have hl := Lib.decDigits_length u
 cases hd : Lib.decDigits u with
 | nil => rw [hd] at hl; simp at hl; omega
 | cons b r =>
  rw [hd] at hv h2 hl
  have ha := dec_all u
  rw [hd, allDig_cons] at ha
  have hr := val_lt ha.2
  have hb : b.toNat = 48 := by simpa using h2
  rw [val_cons, hb] at hv
  simp at hv hl
  rw [hv] at hr
  have := nd_le r.length u hr (by omega)
  omega
theorem dec_num (u : Nat) : isNum (Lib.decDigits u) = true := by
 rw [isNum_iff]
 exact ⟨dec_pos u, run_all (dec_all u), dec_pad u⟩
end Go.Proofs.YtgfbflnhjpbceaaGreatDoor.Num
