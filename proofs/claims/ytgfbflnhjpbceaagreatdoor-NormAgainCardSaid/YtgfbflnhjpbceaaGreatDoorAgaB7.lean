/-
  What the theorem of the last text needs of these: SvSame, IdGood, IdTexts, NumText. Conditions: as each theorem states.
-/
import Derived.Test.YtgfbflnhjpbceaaGreatDoorAgaB1
import Derived.Test.YtgfbflnhjpbceaaGreatDoorAgaB2
import Derived.Test.YtgfbflnhjpbceaaGreatDoorAgaB5
import Derived.Test.YtgfbflnhjpbceaaGreatDoorAgaB6
import Derived.StillTailTactics
import Derived.Deep.CutBlock
import Derived.Deep.DeepCutAuto
import Derived.Deep.RegionHeld3
import Derived.Test.YtgfbflnhjpbceaaGreatDoorShelfJoin
import Derived.Test.YtgfbflnhjpbceaaGreatDoorShelf
import Derived.Lib.ItoaMem
import Derived.Lib.ItoaLen
set_option maxRecDepth 100000
set_option maxHeartbeats 25600000
namespace Go.Proofs.YtgfbflnhjpbceaaGreatDoor.Semver
open Go.RowKit Num Ident

theorem equal_any (A : Option Addr) (a ca : Nat) (xs : List (List UInt8)) (B : Option Addr) (b cb : Nat) (ys : List (List UInt8)) (w : World) (hA : SRow w A a xs) (hB : SRow w B b ys) (ha : a ≤ maxLen) (hb : b ≤ maxLen) :
  Calls Tryz.prog 92 #[.slice A a ca, .slice B b cb] w fun e w' => e = .returned (.bool (sameB xs ys)) ∧ Below w.heap.size w w' := by
 unfold maxLen at ha hb
 have HA := Lib.hid hA
 have HB := Lib.hid hB
 have HLA := Lib.hid hA.1
 have HLB := Lib.hid hB.1
 clear hA hB
 by_cases hab : a = b
 ·subst hab
  go_enter Tryz.func92, Tryz.ntmps92
  go_wp2
  go_loopw [13] (fun i W => ∃ k : Nat, k ≤ a ∧ i = .int .i64 k ∧ Hid (∀ j, j < k → xs.getD j [] = ys.getD j []) ∧ Hid (Below w.heap.size w W)) (fun i _ => a - (intOf i).toNat)
  case atStart => exact ⟨0, Nat.zero_le _, rfl, (fun j hj => by omega), Below.refl _ _⟩
  case round =>
   obtain ⟨k, hk, rfl, HD, HW⟩ := hrel
   by_cases hlt : k < a
   ·obtain ⟨g1, o1, rfl, hg1, hc1⟩ := (HA.out.kept HW.out).2 (by omega)
    obtain ⟨g2, o2, rfl, hg2, hc2⟩ := (HB.out.kept HW.out).2 (by omega)
    have hx1 := hc1 k hlt
    have hx2 := hc2 k hlt
    clear hc1 hc2
    obtain ⟨s, hs⟩ : ∃ s, mk (xs.getD k []) = s := ⟨_, rfl⟩
    obtain ⟨t, ht⟩ : ∃ t, mk (ys.getD k []) = t := ⟨_, rfl⟩
    have HS : Hid (s = t → xs.getD k [] = ys.getD k []) := fun h => by rw [← hs, ← ht] at h; have := congrArg (fun z : ByteArray => z.data.toList) h; exact this
    have HS2 : Hid (s ≠ t → xs ≠ ys) := fun h h2 => h (by rw [← hs, ← ht, h2])
    rw [hs] at hx1
    rw [ht] at hx2
    clear hs ht
    by_cases hst : s = t
    ·have HS3 := Lib.hid (HS.out hst)
     subst hst
     have hq : (s.toList == s.toList) = true := by simp
     have hq2 : (s.toList != s.toList) = false := by simp
     go_wp2
     go_still (by kernel_rfl)
     have HW2 := Lib.hid HW.out.drew
     go_wp2
     refine ⟨⟨k + 1, by omega, by go_num, (fun j hj => ?_), HW2.out⟩, by simp [intOf]; omega⟩
     rcases Nat.lt_or_ge j k with hj1 | hj1
     ·exact HD.out j hj1
     ·obtain rfl : j = k := by omega
      exact HS3.out
    ·have HS3 := Lib.hid (HS2.out hst)
     have hq : (s.toList == t.toList) = false := by
      rw [Lib.toList_data, Lib.toList_data, beq_eq_false_iff_ne]
      exact fun h => hst (by have := congrArg mk h; exact this)
     have hq2 : (s.toList != t.toList) = true := by rw [bne, hq]; rfl
     clear hst
     go_wp2
     go_still (by kernel_rfl)
     have HW2 := Lib.hid HW.out.drew
     go_wp2
     go_ret
     exact ⟨by rw [sameB_no HS3.out]; rfl, HW2.out⟩
   ·have HF : Hid (sameB xs ys = true) := (sameB_iff xs ys).2 (List.ext_getElem (by rw [HLA.out, HLB.out]) fun j h1 h2 => by
     have := HD.out j (by rw [HLA.out] at h1; omega)
     simpa [List.getD, List.getElem?_eq_getElem h1, List.getElem?_eq_getElem h2] using this)
    go_wp2
    go_ret
    exact ⟨by rw [HF.out]; rfl, HW.out⟩
 ·have HF : Hid (sameB xs ys = false) := sameB_no fun h => hab (by rw [← HLA.out, ← HLB.out, h])
  have hq : ((a : Int) == (b : Int)) = false := by simp; omega
  have hq2 : ((a : Int) != (b : Int)) = true := by simp; omega
  go_enter Tryz.func92, Tryz.ntmps92
  go_wp2
  go_ret
  exact ⟨by rw [HF.out]; rfl, Below.refl _ _⟩
theorem coreOf_any (a b c : Int) (x y : Value) (w : World) :
  Calls Tryz.prog 71 #[.agg #[.int .u64 a, .int .u64 b, .int .u64 c, x, y]] w fun e w' => e = .returned (.agg #[.int .u64 a, .int .u64 b, .int .u64 c]) ∧ Below w.heap.size w w' := by
 go_enter Tryz.func71, Tryz.ntmps71
 go_wp2
 exact bodyPost_ret (v := .agg #[.int .u64 a, .int .u64 b, .int .u64 c]) (by simp [results, Tryz.results71, go_sem]) rfl ⟨rfl, ((Below.refl _ _).alloc (Nat.le_refl _) _).alloc (by simp) _⟩
theorem same_parts (A1 : Option Addr) (a1 c1 : Nat) (xs1 : List (List UInt8)) (A2 : Option Addr) (a2 c2 : Nat) (xs2 : List (List UInt8)) (B1 : Option Addr) (b1 d1 : Nat) (ys1 : List (List UInt8)) (B2 : Option Addr) (b2 d2 : Nat) (ys2 : List (List UInt8)) (n0 n1 n2 m0 m1 m2 : Nat) (w : World)
  (r1 : SRow w A1 a1 xs1) (r2 : SRow w A2 a2 xs2) (q1 : SRow w B1 b1 ys1) (q2 : SRow w B2 b2 ys2) (ha1 : a1 ≤ maxLen) (ha2 : a2 ≤ maxLen) (hb1 : b1 ≤ maxLen) (hb2 : b2 ≤ maxLen) :
  Calls Tryz.prog 56 #[.agg #[.int .u64 (n0 : Int), .int .u64 (n1 : Int), .int .u64 (n2 : Int), .slice A1 a1 c1, .slice A2 a2 c2], .agg #[.int .u64 (m0 : Int), .int .u64 (m1 : Int), .int .u64 (m2 : Int), .slice B1 b1 d1, .slice B2 b2 d2]] w fun e w' => e = .returned (.bool (sameV ⟨n0, n1, n2, xs1, xs2⟩ ⟨m0, m1, m2, ys1, ys2⟩)) ∧ Below w.heap.size w w' := by
 have R1 := Lib.hid r1
 have R2 := Lib.hid r2
 have Q1 := Lib.hid q1
 have Q2 := Lib.hid q2
 have HA1 := Lib.hid ha1
 have HA2 := Lib.hid ha2
 have HB1 := Lib.hid hb1
 have HB2s := Lib.hid hb2
 clear r1 r2 q1 q2 ha1 ha2 hb1 hb2
 have HB0 : Hid (Below w.heap.size w ((w.alloc (.cells #[.int .u64 (n0 : Int), .int .u64 (n1 : Int), .int .u64 (n2 : Int), .slice A1 a1 c1, .slice A2 a2 c2] 25)).alloc (.cells #[.int .u64 (m0 : Int), .int .u64 (m1 : Int), .int .u64 (m2 : Int), .slice B1 b1 d1, .slice B2 b2 d2] 25))) := ((Below.refl _ _).alloc (Nat.le_refl _) _).alloc (by simp) _
 have HP1 : Hid (At5 ((w.alloc (.cells #[.int .u64 (n0 : Int), .int .u64 (n1 : Int), .int .u64 (n2 : Int), .slice A1 a1 c1, .slice A2 a2 c2] 25)).alloc (.cells #[.int .u64 (m0 : Int), .int .u64 (m1 : Int), .int .u64 (m2 : Int), .slice B1 b1 d1, .slice B2 b2 d2] 25)) w.heap.size (.int .u64 (n0 : Int)) (.int .u64 (n1 : Int)) (.int .u64 (n2 : Int)) (.slice A1 a1 c1) (.slice A2 a2 c2)) := (At5.new w 25 _ _ _ _ _).kept ((Below.refl _ _).alloc (Nat.le_refl _) _) (by simp)
 have HP2 : Hid (At5 ((w.alloc (.cells #[.int .u64 (n0 : Int), .int .u64 (n1 : Int), .int .u64 (n2 : Int), .slice A1 a1 c1, .slice A2 a2 c2] 25)).alloc (.cells #[.int .u64 (m0 : Int), .int .u64 (m1 : Int), .int .u64 (m2 : Int), .slice B1 b1 d1, .slice B2 b2 d2] 25)) (w.heap.size + 1) (.int .u64 (m0 : Int)) (.int .u64 (m1 : Int)) (.int .u64 (m2 : Int)) (.slice B1 b1 d1) (.slice B2 b2 d2)) := by
  have := At5.new (w.alloc (.cells #[.int .u64 (n0 : Int), .int .u64 (n1 : Int), .int .u64 (n2 : Int), .slice A1 a1 c1, .slice A2 a2 c2] 25)) 25 (.int .u64 (m0 : Int)) (.int .u64 (m1 : Int)) (.int .u64 (m2 : Int)) (.slice B1 b1 d1) (.slice B2 b2 d2)
  rw [size_alloc] at this; exact this
 have HD := Lib.hid ((Below.refl ((w.alloc (.cells #[.int .u64 (n0 : Int), .int .u64 (n1 : Int), .int .u64 (n2 : Int), .slice A1 a1 c1, .slice A2 a2 c2] 25)).alloc (.cells #[.int .u64 (m0 : Int), .int .u64 (m1 : Int), .int .u64 (m2 : Int), .slice B1 b1 d1, .slice B2 b2 d2] 25)).heap.size ((w.alloc (.cells #[.int .u64 (n0 : Int), .int .u64 (n1 : Int), .int .u64 (n2 : Int), .slice A1 a1 c1, .slice A2 a2 c2] 25)).alloc (.cells #[.int .u64 (m0 : Int), .int .u64 (m1 : Int), .int .u64 (m2 : Int), .slice B1 b1 d1, .slice B2 b2 d2] 25))).drew)
 have HDw := Lib.hid (HD.out.mono (B' := w.heap.size) (by simp; omega))
 by_cases hn : n0 = m0 ∧ n1 = m1 ∧ n2 = m2
 ·obtain ⟨rfl, rfl, rfl⟩ := hn
  have kq := fun W => run_eq3 n0 n1 n2 n0 n1 n2 W
  rw [show ((((n0 : Int) == (n0 : Int)) && (((n1 : Int) == (n1 : Int)) && ((n2 : Int) == (n2 : Int))))) = true by simp] at kq
  have HF : Hid (sameV ⟨n0, n1, n2, xs1, xs2⟩ ⟨n0, n1, n2, ys1, ys2⟩ = (sameB xs1 ys1 && sameB xs2 ys2)) := by unfold Hid sameV; simp
  go_enter Tryz.func56, Tryz.ntmps56
  go_upto_region 1 with (fail)
  refine wp_region_held_drew (S := fun w' => (w'.cell? ⟨w.heap.size, 0, none⟩ = some (.int .u64 (n0 : Int)) ∧ w'.cell? ⟨w.heap.size, 1, none⟩ = some (.int .u64 (n1 : Int)) ∧ w'.cell? ⟨w.heap.size, 2, none⟩ = some (.int .u64 (n2 : Int)) ∧ w'.cell? ⟨w.heap.size, 3, none⟩ = some (.slice A1 a1 c1) ∧ w'.cell? ⟨w.heap.size, 4, none⟩ = some (.slice A2 a2 c2)) ∧ (w'.cell? ⟨(w.heap.size + 1), 0, none⟩ = some (.int .u64 (n0 : Int)) ∧ w'.cell? ⟨(w.heap.size + 1), 1, none⟩ = some (.int .u64 (n1 : Int)) ∧ w'.cell? ⟨(w.heap.size + 1), 2, none⟩ = some (.int .u64 (n2 : Int)) ∧ w'.cell? ⟨(w.heap.size + 1), 3, none⟩ = some (.slice B1 b1 d1) ∧ w'.cell? ⟨(w.heap.size + 1), 4, none⟩ = some (.slice B2 b2 d2))) (by kernel_rfl) ⟨HP1.out.2.2, HP2.out.2.2⟩ (fun hHeld => ?_)
  refine tk 0 rfl (.agg #[.int .u64 (n0 : Int), .int .u64 (n1 : Int), .int .u64 (n2 : Int), .slice A1 a1 c1, .slice A2 a2 c2]) ?_
  refine tk 2 rfl (.agg #[.int .u64 (n0 : Int), .int .u64 (n1 : Int), .int .u64 (n2 : Int), .slice B1 b1 d1, .slice B2 b2 d2]) ?_
  refine cl 1 rfl fun K hK => ?_
  go_simp
  refine (coreOf_any _ _ _ _ _ _).mono ?_
  rintro e w2 ⟨rfl, hb2⟩
  have HK1 := Lib.hid ((HP1.out.kept HD.out (by simp; omega)).kept hb2 (by simp; omega))
  have HK2 := Lib.hid ((HP2.out.kept HD.out (by simp)).kept hb2 (by simp))
  have HB2 := Lib.hid ((HB0.out.trans HDw.out).trans (hb2.mono (by simp; omega)))
  have hz2 : w.heap.size + 2 ≤ w2.heap.size := by have := hb2.size; simpa using this
  clear hb2
  refine hK.out _ _ ⟨HK1.out.2.2, HK2.out.2.2⟩ (fun hHeld => ?_)
  clear hK K
  try simp only [Act.put, p1, p2, p3]
  refine cl 3 rfl fun K hK => ?_
  go_simp
  refine (coreOf_any _ _ _ _ _ _).mono ?_
  rintro e w3 ⟨rfl, hb3⟩
  have HM1 := Lib.hid (HK1.out.kept hb3 (by omega))
  have HM2 := Lib.hid (HK2.out.kept hb3 (by omega))
  have HB3 := Lib.hid (HB2.out.trans (hb3.mono (by omega)))
  have hz3 := hb3.size
  clear hb3
  refine hK.out _ _ ⟨HM1.out.2.2, HM2.out.2.2⟩ (fun hHeld => ?_)
  clear hK K
  try simp only [Act.put, p1, p2, p3]
  refine tk 4 rfl (.bool true) ?_
  refine tk 5 rfl (.bool true) ?_
  refine tk 6 rfl (.pointer (some ⟨w.heap.size, 3, none⟩)) ?_
  refine tk 7 rfl (.slice A1 a1 c1) ?_
  refine tk 8 rfl (.pointer (some ⟨w.heap.size + 1, 3, none⟩)) ?_
  refine tk 9 rfl (.slice B1 b1 d1) ?_
  refine cl 10 rfl fun K hK => ?_
  go_simp
  refine (equal_any _ _ _ xs1 _ _ _ ys1 _ (R1.out.kept HB3.out) (Q1.out.kept HB3.out) HA1.out HB1.out).mono ?_
  rintro e w4 ⟨rfl, hb4⟩
  have HN1 := Lib.hid (HM1.out.kept hb4 (by omega))
  have HN2 := Lib.hid (HM2.out.kept hb4 (by omega))
  have HB4 := Lib.hid (HB3.out.trans (hb4.mono (by omega)))
  have hz4 := hb4.size
  clear hb4
  refine hK.out _ _ ⟨HN1.out.2.2, HN2.out.2.2⟩ (fun hHeld => ?_)
  clear hK K
  try simp only [Act.put, p1, p2, p3]
  generalize sameB xs1 ys1 = s1 at HF ⊢
  cases s1
  ·refine tk 11 rfl (.bool false) ?_
   refine tk 12 rfl (.bool false) ?_
   refine sk 13 rfl ?_
   refine sk 14 rfl ?_
   refine sk 15 rfl ?_
   refine sk 16 rfl ?_
   refine sk 17 rfl ?_
   refine tk 18 rfl (.bool false) ?_
   refine tk 19 rfl (.bool false) ?_
   refine wpAnyH_done (by kernel_rfl) ?_ _
   go_wp2
   go_ret
   exact ⟨by rw [HF.out]; rfl, HB4.out⟩
  ·refine tk 11 rfl (.bool true) ?_
   refine tk 12 rfl (.bool true) ?_
   refine tk 13 rfl (.pointer (some ⟨w.heap.size, 4, none⟩)) ?_
   refine tk 14 rfl (.slice A2 a2 c2) ?_
   refine tk 15 rfl (.pointer (some ⟨w.heap.size + 1, 4, none⟩)) ?_
   refine tk 16 rfl (.slice B2 b2 d2) ?_
   refine cl 17 rfl fun K hK => ?_
   go_simp
   refine (equal_any _ _ _ xs2 _ _ _ ys2 _ (R2.out.kept HB4.out) (Q2.out.kept HB4.out) HA2.out HB2s.out).mono ?_
   rintro e w5 ⟨rfl, hb5⟩
   have HO1 := Lib.hid (HN1.out.kept hb5 (by omega))
   have HO2 := Lib.hid (HN2.out.kept hb5 (by omega))
   have HB5 := Lib.hid (HB4.out.trans (hb5.mono (by omega)))
   clear hb5
   refine hK.out _ _ ⟨HO1.out.2.2, HO2.out.2.2⟩ (fun hHeld => ?_)
   clear hK K
   try simp only [Act.put, p1, p2, p3]
   refine tk 18 rfl (.bool (sameB xs2 ys2)) ?_
   refine tk 19 rfl (.bool (sameB xs2 ys2)) ?_
   refine wpAnyH_done (by kernel_rfl) ?_ _
   go_wp2
   go_ret
   exact ⟨by rw [HF.out]; rfl, HB5.out⟩
 ·have HF : Hid (sameV ⟨n0, n1, n2, xs1, xs2⟩ ⟨m0, m1, m2, ys1, ys2⟩ = false) := by unfold Hid sameV; rw [decide_eq_false hn]; rfl
  have hq : (((n0 : Int) == (m0 : Int)) && (((n1 : Int) == (m1 : Int)) && ((n2 : Int) == (m2 : Int)))) = false := by
   rw [← Bool.not_eq_true]; simp only [Bool.and_eq_true, beq_iff_eq]; omega
  have kq := fun W => run_eq3 n0 n1 n2 m0 m1 m2 W
  rw [hq] at kq
  clear hn hq
  go_enter Tryz.func56, Tryz.ntmps56
  go_upto_region 1 with (fail)
  refine wp_region_held_drew (S := fun w' => (w'.cell? ⟨w.heap.size, 0, none⟩ = some (.int .u64 (n0 : Int)) ∧ w'.cell? ⟨w.heap.size, 1, none⟩ = some (.int .u64 (n1 : Int)) ∧ w'.cell? ⟨w.heap.size, 2, none⟩ = some (.int .u64 (n2 : Int)) ∧ w'.cell? ⟨w.heap.size, 3, none⟩ = some (.slice A1 a1 c1) ∧ w'.cell? ⟨w.heap.size, 4, none⟩ = some (.slice A2 a2 c2)) ∧ (w'.cell? ⟨(w.heap.size + 1), 0, none⟩ = some (.int .u64 (m0 : Int)) ∧ w'.cell? ⟨(w.heap.size + 1), 1, none⟩ = some (.int .u64 (m1 : Int)) ∧ w'.cell? ⟨(w.heap.size + 1), 2, none⟩ = some (.int .u64 (m2 : Int)) ∧ w'.cell? ⟨(w.heap.size + 1), 3, none⟩ = some (.slice B1 b1 d1) ∧ w'.cell? ⟨(w.heap.size + 1), 4, none⟩ = some (.slice B2 b2 d2))) (by kernel_rfl) ⟨HP1.out.2.2, HP2.out.2.2⟩ (fun hHeld => ?_)
  refine tk 0 rfl (.agg #[.int .u64 (n0 : Int), .int .u64 (n1 : Int), .int .u64 (n2 : Int), .slice A1 a1 c1, .slice A2 a2 c2]) ?_
  refine tk 2 rfl (.agg #[.int .u64 (m0 : Int), .int .u64 (m1 : Int), .int .u64 (m2 : Int), .slice B1 b1 d1, .slice B2 b2 d2]) ?_
  refine cl 1 rfl fun K hK => ?_
  go_simp
  refine (coreOf_any _ _ _ _ _ _).mono ?_
  rintro e w2 ⟨rfl, hb2⟩
  have HK1 := Lib.hid ((HP1.out.kept HD.out (by simp; omega)).kept hb2 (by simp; omega))
  have HK2 := Lib.hid ((HP2.out.kept HD.out (by simp)).kept hb2 (by simp))
  have HB2 := Lib.hid ((HB0.out.trans HDw.out).trans (hb2.mono (by simp; omega)))
  have hz2 : w.heap.size + 2 ≤ w2.heap.size := by have := hb2.size; simpa using this
  clear hb2
  refine hK.out _ _ ⟨HK1.out.2.2, HK2.out.2.2⟩ (fun hHeld => ?_)
  clear hK K
  try simp only [Act.put, p1, p2, p3]
  refine cl 3 rfl fun K hK => ?_
  go_simp
  refine (coreOf_any _ _ _ _ _ _).mono ?_
  rintro e w3 ⟨rfl, hb3⟩
  have HM1 := Lib.hid (HK1.out.kept hb3 (by omega))
  have HM2 := Lib.hid (HK2.out.kept hb3 (by omega))
  have HB3 := Lib.hid (HB2.out.trans (hb3.mono (by omega)))
  have hz3 := hb3.size
  clear hb3
  refine hK.out _ _ ⟨HM1.out.2.2, HM2.out.2.2⟩ (fun hHeld => ?_)
  clear hK K
  try simp only [Act.put, p1, p2, p3]
  refine tk 4 rfl (.bool false) ?_
  refine tk 5 rfl (.bool false) ?_
  refine sk 6 rfl ?_
  refine sk 7 rfl ?_
  refine sk 8 rfl ?_
  refine sk 9 rfl ?_
  refine sk 10 rfl ?_
  refine tk 11 rfl (.bool false) ?_
  refine tk 12 rfl (.bool false) ?_
  refine sk 13 rfl ?_
  refine sk 14 rfl ?_
  refine sk 15 rfl ?_
  refine sk 16 rfl ?_
  refine sk 17 rfl ?_
  refine tk 18 rfl (.bool false) ?_
  refine tk 19 rfl (.bool false) ?_
  refine wpAnyH_done (by kernel_rfl) ?_ _
  go_wp2
  go_ret
  exact ⟨by rw [HF.out]; rfl, HB3.out⟩
end Go.Proofs.YtgfbflnhjpbceaaGreatDoor.Semver
namespace Go.Proofs.YtgfbflnhjpbceaaGreatDoor.Ident
open Go.RowKit Num

def GoodJ (w : World) (A : Option Addr) (n c : Nat) (pre : Bool) (xs : List (List UInt8)) (a' : Act) (w' : World) : Prop :=
 ∃ (k : Nat) (u6 u7 u8 u9 u10 u11 u12 u13 u14 u15 u16 u17 u18 u19 u20 u21 u22 u23 u24 u25 u26 u27 u28 u29 u30 u31 u32 u33 : Value), Below w.heap.size w w' ∧ k ≤ n ∧ goodFrom pre (xs.drop k) k = goodFrom pre xs 0 ∧
  a' = { tmps := #[.slice A n c, .bool pre, undef, undef, .bool false, .int .i64 k, u6, u7, u8, u9, u10, u11, u12, u13, u14, u15, u16, u17, u18, u19, u20, u21, u22, u23, u24, u25, u26, u27, u28, u29, u30, u31, u32, u33], defers := [] }
def GoodM (n : Nat) (a' : Act) (_ : World) : Nat := n - (intOf (a'.tmps.getD 5 undef)).toNat
theorem good_any (A : Option Addr) (n c : Nat) (xs : List (List UInt8)) (pre : Bool) (w : World) (hr : SRow w A n xs) (hn : n ≤ maxLen) (hx : ∀ x ∈ xs, x.length ≤ maxLen) :
  Calls Tryz.prog 72 #[.slice A n c, .bool pre] w fun e w' => e = .returned (.bool (goodFrom pre xs 0)) ∧ Below w.heap.size w w' := by
 have HN := Lib.hid hn
 unfold maxLen at hn
 have HR := Lib.hid hr
 have HLX := Lib.hid hr.1
 have HX := Lib.hid hx
 clear hr hx
 go_enter Tryz.func72, Tryz.ntmps72
 go_wp2
 refine wp_scope_back 0 (GoodJ w A n c pre xs) (GoodM n) rfl ?_ ?_
 ·rintro a' w1 ⟨k, u6, u7, u8, u9, u10, u11, u12, u13, u14, u15, u16, u17, u18, u19, u20, u21, u22, u23, u24, u25, u26, u27, u28, u29, u30, u31, u32, u33, hb1, hk, hgo, rfl⟩
  have HB1 := Lib.hid hb1
  have HG := Lib.hid hgo
  clear hb1 hgo
  have hz1 := HB1.out.size
  by_cases h1 : k = n
  ·have HF : Hid (goodFrom pre xs 0 = true) := by
    unfold Hid
    rw [← HG.out, List.drop_eq_nil_of_le (by rw [HLX.out, h1]; exact Nat.le_refl _), goodFrom]
   have hb : ((k : Int) == (n : Int)) = true := by simp [h1]
   clear h1
   go_wp2
   simp only [Exit.jump]
   go_ret
   exact ⟨by rw [HF.out]; rfl, HB1.out⟩
  have hlt : k < n := by omega
  have hb : ((k : Int) == (n : Int)) = false := by simp; omega
  clear h1
  obtain ⟨g, o, rfl, hg, hc1⟩ := (HR.out.kept HB1.out).2 (by omega)
  have hx1 := hc1 k hlt
  clear hc1
  have HKL : Hid (k < xs.length) := by unfold Hid; rw [HLX.out]; exact hlt
  have HST := Lib.hid (fun h1 h2 => goodFrom_step (pre := pre) HKL.out h1 h2)
  have HSP := Lib.hid (fun h => goodFrom_stop (pre := pre) HKL.out h)
  have HZ := Lib.hid (HX.out (xs.getD k []) (by have h := HKL.out; simp [List.getD, List.getElem?_eq_getElem h]))
  have HKM : Hid (k ≤ maxLen) := by have := HN.out; unfold Hid; omega
  generalize xs.getD k [] = s at hx1 HST HSP HZ
  obtain ⟨f, hf⟩ : ∃ f, fault s k pre = f := ⟨_, rfl⟩
  have HFA : Hid (∀ W, Calls Tryz.prog 104 #[.string (mk s), .int .i64 k, .bool pre] W fun e w' => e = .returned (.int .i64 f) ∧ Below W.heap.size W w') := fun W => by
   have := fault_any (mk s) k pre W HZ.out HKM.out
   rw [mk_list, hf] at this; exact this
  rw [hf] at HST HSP
  clear hf
  go_upto_region 4 with (fail)
  go_cut [31] (fun x wx => x = .bool (!(f == 0 && lead s == s.length)) ∧ Below w.heap.size w wx)
  case first =>
   by_cases hf0 : f = 0
   ·subst hf0
    have HF : Hid ((!((0 : Nat) == 0 && lead s == s.length)) = (((lead s : Nat) : Int) != (s.length : Int))) := by
     unfold Hid
     rw [Bool.eq_iff_iff]; simp; omega
    refine wp_region_held_drew (S := fun w' => w'.cell? ⟨g, o + k, none⟩ = some (.string (mk s))) (by kernel_rfl) hx1 (fun hHeld => ?_)
    refine tk 0 rfl (.slice (some ⟨g, o, none⟩) n c) ?_
    refine tk 1 rfl (.int .i64 k) ?_
    refine tk 2 rfl (.pointer (some ⟨g, o + k, none⟩)) ?_
    refine tk 3 rfl (.string (mk s)) ?_
    refine tk 4 rfl (.int .i64 k) ?_
    refine tk 5 rfl (.bool pre) ?_
    refine cl 6 rfl fun K hK => ?_
    go_simp
    refine (HFA.out _).mono ?_
    rintro e w2 ⟨rfl, hb2⟩
    have hx2 : w2.cell? ⟨g, o + k, none⟩ = some (.string (mk s)) := (hb2.cell (p := ⟨g, o + k, none⟩) (by simpa using hg)).trans (by simpa using hx1)
    obtain ⟨cc, W, hcc, hcv, hrr, hbW⟩ := run_bytes w2 (mk s) HZ.out
    have hxW : W.cell? ⟨g, o + k, none⟩ = some (.string (mk s)) := (hbW.cell (p := ⟨g, o + k, none⟩) (Nat.lt_of_lt_of_le (by simpa using hg) hb2.size)).trans hx2
    have HBB := Lib.hid ((HB1.out.drew.trans (hb2.mono hz1)).trans (hbW.mono (Nat.le_trans hz1 hb2.size)))
    have HRR := Lib.hid hrr
    clear hb2 hrr hbW
    refine hK.out _ _ hx2 (fun hHeld => ?_)
    clear hK K
    try simp only [Act.put, p1, p2, p3]
    refine tk 7 rfl (.bool false) ?_
    refine tk 8 rfl (.bool false) ?_
    refine tk 9 rfl (.slice (some ⟨g, o, none⟩) n c) ?_
    refine tk 10 rfl (.int .i64 k) ?_
    refine tk 11 rfl (.pointer (some ⟨g, o + k, none⟩)) ?_
    refine tk 12 rfl (.string (mk s)) ?_
    refine tk 15 rfl (.slice (some ⟨g, o, none⟩) n c) ?_
    refine tk 16 rfl (.int .i64 k) ?_
    refine tk 17 rfl (.pointer (some ⟨g, o + k, none⟩)) ?_
    refine tk 18 rfl (.string (mk s)) ?_
    refine tk 19 rfl (.int .i64 (mk s).size) ?_
    refine cl 13 rfl fun K hK => ?_
    go_simp
    refine hK.out _ _ hxW (fun hHeld => ?_)
    clear hK K
    try simp only [Act.put, p1, p2, p3]
    refine cl 14 rfl fun K hK => ?_
    go_simp
    refine (length_any _ _ _ _ _ HRR.out).mono ?_
    rintro e w3 ⟨rfl, rfl⟩
    refine hK.out _ _ hxW (fun hHeld => ?_)
    clear hK K
    try simp only [Act.put, p1, p2, p3]
    refine tk 20 rfl (.bool (((lead s : Nat) : Int) != (s.length : Int))) ?_ fun w' hS' => by (go_simp; rfl)
    refine tk 21 rfl (.bool (((lead s : Nat) : Int) != (s.length : Int))) ?_
    refine wpAnyH_done (by kernel_rfl) ?_ _
    go_wp2
    go_meet
    exact ⟨by rw [HF.out], HBB.out⟩
   ·have hn1 : ((f : Int) == 0) = false := by simp [hf0]
    have hn2 : ((f : Int) != 0) = true := by simp [hf0]
    have HF : Hid ((!(f == 0 && lead s == s.length)) = true) := by unfold Hid; simp [hf0]
    refine wp_region_held_drew (S := fun w' => w'.cell? ⟨g, o + k, none⟩ = some (.string (mk s))) (by kernel_rfl) hx1 (fun hHeld => ?_)
    refine tk 0 rfl (.slice (some ⟨g, o, none⟩) n c) ?_
    refine tk 1 rfl (.int .i64 k) ?_
    refine tk 2 rfl (.pointer (some ⟨g, o + k, none⟩)) ?_
    refine tk 3 rfl (.string (mk s)) ?_
    refine tk 4 rfl (.int .i64 k) ?_
    refine tk 5 rfl (.bool pre) ?_
    refine cl 6 rfl fun K hK => ?_
    go_simp
    refine (HFA.out _).mono ?_
    rintro e w2 ⟨rfl, hb2⟩
    have hx2 : w2.cell? ⟨g, o + k, none⟩ = some (.string (mk s)) := (hb2.cell (p := ⟨g, o + k, none⟩) (by simpa using hg)).trans (by simpa using hx1)
    have HBB := Lib.hid (HB1.out.drew.trans (hb2.mono hz1))
    clear hb2
    refine hK.out _ _ hx2 (fun hHeld => ?_)
    clear hK K
    try simp only [Act.put, p1, p2, p3]
    refine tk 7 rfl (.bool true) ?_
    refine tk 8 rfl (.bool true) ?_
    refine sk 9 rfl ?_
    refine sk 10 rfl ?_
    refine sk 11 rfl ?_
    refine sk 12 rfl ?_
    refine sk 13 rfl ?_
    refine sk 14 rfl ?_
    refine sk 15 rfl ?_
    refine sk 16 rfl ?_
    refine sk 17 rfl ?_
    refine sk 18 rfl ?_
    refine sk 19 rfl ?_
    refine sk 20 rfl ?_
    refine tk 21 rfl (.bool true) ?_
    refine wpAnyH_done (by kernel_rfl) ?_ _
    go_wp2
    go_meet
    exact ⟨by rw [HF.out], HBB.out⟩
  case rest =>
   obtain ⟨rfl, hbx⟩ := hcut
   have HBX := Lib.hid hbx; clear hbx
   cases hq : (f == 0 && lead s == s.length)
   ·have HF : Hid (goodFrom pre xs 0 = false) := by
     unfold Hid
     rw [← HG.out]
     apply HSP.out
     rw [Bool.and_eq_false_iff] at hq
     rcases hq with h | h
     ·exact .inl (by simpa using h)
     ·exact .inr (by simpa using h)
    clear hq
    simp only [Bool.not_false]
    go_wp2
    simp only [Exit.jump]
    go_ret
    exact ⟨by rw [HF.out]; rfl, HBX.out⟩
   ·have HF : Hid (goodFrom pre (xs.drop (k + 1)) (k + 1) = goodFrom pre xs 0) := by
     unfold Hid
     rw [Bool.and_eq_true, beq_iff_eq, beq_iff_eq] at hq
     rw [← HG.out, ← HST.out hq.1 hq.2]
    clear hq
    simp only [Bool.not_true]
    go_wp2
    go_step3
    rw [show ((k : Int) + 1) = ((k + 1 : Nat) : Int) from rfl]
    refine ⟨rfl, ⟨k + 1, _, _, _, _, _, _, _, _, _, _, _, _, _, _, _, _, _, _, _, _, _, _, _, _, _, _, _, _, HBX.out, by omega, HF.out, rfl⟩, ?_⟩
    simp [GoodM, intOf]; omega
 ·intro HP
  go_wp2
  go_step3
  rename_i hK
  exact hK _ _ (HP.out _ _ ⟨0, _, _, _, _, _, _, _, _, _, _, _, _, _, _, _, _, _, _, _, _, _, _, _, _, _, _, _, _, Below.refl _ _, by omega, rfl, rfl⟩)
end Go.Proofs.YtgfbflnhjpbceaaGreatDoor.Ident
namespace Go.Proofs.YtgfbflnhjpbceaaGreatDoor.Ident
open Go.RowKit Num

theorem text_any (A : Option Addr) (n c : Nat) (xs : List (List UInt8)) (w : World) (hr : SRow w A n xs) (hc : n ≤ c) (hs : shortB xs = true) :
  Calls Tryz.prog 146 #[.slice A n c] w fun e w' => e = .returned (.string (mk (joined xs))) ∧ Below w.heap.size w w' := by
 have HJ : Hid (∀ W, W = w → Calls Tryz.prog 164 #[.slice A n c, .string ⟨#[46]⟩] W fun e w' => e = .returned (.string (mk (joined xs))) ∧ Below w.heap.size w w') := by
  rintro W rfl
  have hn := hr.1
  rw [shortB_iff] at hs
  have hle := joined_le xs hs.2
  rcases Nat.eq_zero_or_pos n with h0 | h0
  ·subst h0
   have e : xs = [] := List.eq_nil_of_length_eq_zero hn
   subst e
   refine (Tryz.strings_Join_none A c ⟨#[46]⟩ W).mono ?_
   rintro e w' ⟨rfl, rfl⟩
   exact ⟨rfl, Below.refl _ _⟩
  ·obtain ⟨b, o, rfl, hb, hcell⟩ := hr.2 h0
   have e1 : (xs.map mk).map (fun x : ByteArray => x.data.toList) = xs := by
    rw [List.map_map]; exact List.map_id xs
   have := Tryz.strings_Join b o c (xs.map mk) ⟨#[46]⟩ W (fun j x hx => by
    have hj : j < xs.length := by have := (List.getElem?_eq_some_iff.1 hx).1; rwa [List.length_map] at this
    have hx2 : x = mk (xs.getD j []) := by
     rw [List.getElem?_map, List.getElem?_eq_getElem hj] at hx
     simp at hx
     rw [← hx]; simp [List.getD, List.getElem?_eq_getElem hj]
    rw [hx2]; exact hcell j (by omega)) hb (by rw [List.length_map]; omega) (by rw [List.length_map]; omega) (by
     rw [e1]
     show (joined xs).length ≤ _
     omega)
   rw [e1, List.length_map, hn] at this
   exact this
 clear hr hs
 go_enter Tryz.func146, Tryz.ntmps146
 go_wp2_with fail
 refine (HJ.out _ rfl).mono ?_
 rintro e w1 ⟨rfl, hb1⟩
 go_wp2
 go_ret
 exact ⟨rfl, hb1⟩
end Go.Proofs.YtgfbflnhjpbceaaGreatDoor.Ident
namespace Go.Proofs.YtgfbflnhjpbceaaGreatDoor.Num
open Go.RowKit Go.Sort

def Tab (w : World) : Prop := Lib.TabIs Tryz.prog w "internal/strconv.uint64pow10" .u64 Lib.pow10Tab
theorem Tab.kept {w w' : World} (h : Tab w) (hb : Below w.heap.size w w') : Tab w' := by
 unfold Tab Lib.TabIs World.var? at *
 cases hg : Tryz.prog.globalNamed "internal/strconv.uint64pow10" with
 | none => simp [hg] at h
 | some g =>
  simp only [hg, Option.bind_some] at h ⊢
  have hlt : g < w.heap.size := by
   rcases Nat.lt_or_ge g w.heap.size with h' | h'
   ·exact h'
   ·rw [Array.getElem?_eq_none h'] at h; simp at h
  rw [hb.block g hlt]
  exact h

theorem below_grow (w : World) (k : Nat) (os : Array Obj) : Below w.heap.size w (grow (w.drewN k) os) := by
 refine ⟨rfl, rfl, rfl, ?_, fun j hj => ?_⟩
 ·show w.heap.size ≤ (w.heap ++ os).size
  simp
 ·show (w.heap ++ os)[j]? = _
  rw [Array.getElem?_append_left hj]

theorem holds_zero0 (w : World) (T : TypeId) (nd : Nat) (hs : nd ≤ 24) : Holds (fun (b : UInt8) => Value.int .u8 (b.toNat : Int)) (w.alloc (.cells Lib.zeros24 T)) w.heap.size 0 (Array.replicate nd (0 : UInt8)) := fun j hj => by
 have hj' : j < nd := by simpa using hj
 refine ⟨?_, World.frozen?_alloc_new _ _ _ _⟩
 rw [World.cell?_alloc_new, Lib.zeros24_at _ (by omega), getElem!_pos _ j hj]
 simp

theorem fmt_any (u : Nat) (h : u < 18446744073709551616) (w : World) (htab : Tab w) :
  Calls Tryz.prog 163 #[.int .u64 u, .int .i64 10] w fun e w' => e = .returned (.string ⟨(Lib.decDigits u).toArray⟩) ∧ Below w.heap.size w w' := by
 have HU := Lib.hid h; clear h
 by_cases hs : u < 100
 ·go_enter Tryz.func163, Tryz.ntmps163
  go_wp2_with fail
  refine (Tryz.internal_strconv_small u hs _).mono ?_
  rintro e w' ⟨rfl, rfl⟩
  go_wp2
  go_ret
  exact ⟨rfl, Below.refl _ _⟩
 ·have hu1 : 1 ≤ u := by omega
  have hnd := Lib.nDigits_le20 u HU.out
  have hal : Tryz.prog.arrayLen 188 = 24 := by simp [Program.arrayLen, Tryz.underlying188]
  have hsl : ∀ W, (Instr.sliceAt 188 (.pointer (some ⟨w.heap.size, 0, none⟩)) none (some (.int .i64 (Lib.nDigits u : Int))) none).run Tryz.prog W = .ok (.slice (some ⟨w.heap.size, 0, none⟩) (Lib.nDigits u) 24) W := fun W => by
   rw [run_sliceAt_array_h W 188 ⟨w.heap.size, 0, none⟩ (by simp [Program.arrayLen, Program.elem, Tryz.underlying188]) .i64 (Lib.nDigits u : Int) (by omega) (by rw [hal]; omega)]
   go_simp
  have hH0 := holds_zero0 w 188 (Lib.nDigits u) (by omega)
  have hfmt := Tryz.internal_strconv_formatBase10 w.heap.size 0 24 u (Array.replicate (Lib.nDigits u) 0) (w.alloc (.cells Lib.zeros24 188)) hH0 (by rw [Array.size_replicate]; exact Lib.lt_pow_nDigits u) HU.out (by rw [Array.size_replicate]; omega)
  rw [Array.size_replicate] at hfmt
  have HH0 := Lib.hid hH0
  have HFMT := Lib.hid hfmt
  have HT := Lib.hid htab
  clear hH0 hal hfmt htab
  go_enter Tryz.func163, Tryz.ntmps163
  go_wp2_with fail
  refine (Tryz.internal_strconv_numDigits u hu1 HU.out _ (Lib.tabIs_alloc HT.out _)).mono ?_
  rintro e w' ⟨rfl, rfl⟩
  go_wp2_with fail
  refine HFMT.out.mono ?_
  rintro e w' ⟨rfl, k, v', dk, rfl, hF⟩
  have hcv : (convert 68 9 (.slice (some ⟨w.heap.size, 0, none⟩) (Lib.nDigits u) 24)).run Tryz.prog ((putRow (fun (b : UInt8) => Value.int .u8 (b.toNat : Int)) (w.alloc (.cells Lib.zeros24 188)) w.heap.size 0 dk).drewN k) = .ok (.string ⟨(Lib.decDigits u).toArray⟩) ((putRow (fun (b : UInt8) => Value.int .u8 (b.toNat : Int)) (w.alloc (.cells Lib.zeros24 188)) w.heap.size 0 dk).drewN k) := by
   have h := run_convert_bytes_back (P := Tryz.prog) ((putRow (fun (b : UInt8) => Value.int .u8 (b.toNat : Int)) (w.alloc (.cells Lib.zeros24 188)) w.heap.size 0 dk).drewN k) 68 9 5 ⟨w.heap.size, 0, none⟩ 24 (Lib.decDigits u) Tryz.underlying68 Tryz.underlying5 Tryz.underlying9 (fun j hj => by
    rw [Lib.row_is_numeral hF j hj, Lib.add_plain, World.cell?_drewN]
    exact cell?_putRow (fun (b : UInt8) => Value.int .u8 (b.toNat : Int)) _ w.heap.size 0 _ dk HH0.out (by rw [hF.size, Array.size_replicate]) j (by rw [hF.size]; rw [Lib.decDigits_length] at hj; exact hj))
   rw [Lib.decDigits_length] at h
   exact h
  have HB : Hid (Below w.heap.size w ((putRow (fun (b : UInt8) => Value.int .u8 (b.toNat : Int)) (w.alloc (.cells Lib.zeros24 188)) w.heap.size 0 dk).drewN k)) := by
   obtain ⟨os', _, e⟩ := putRow_grow_new (fun (b : UInt8) => Value.int .u8 (b.toNat : Int)) w #[.cells Lib.zeros24 188] w.heap.size 0 dk (Nat.le_refl _)
   unfold Hid
   rw [alloc_eq_grow, e]
   exact below_grow w k os'
  generalize (putRow (fun (b : UInt8) => Value.int .u8 (b.toNat : Int)) (w.alloc (.cells Lib.zeros24 188)) w.heap.size 0 dk).drewN k = W at hcv HB ⊢
  go_wp2
  go_ret
  exact ⟨rfl, HB.out⟩

theorem format_any (u : Nat) (h : u < 18446744073709551616) (w : World) (htab : Tab w) :
  Calls Tryz.prog 145 #[.int .u64 u, .int .i64 10] w fun e w' => e = .returned (.string ⟨(Lib.decDigits u).toArray⟩) ∧ Below w.heap.size w w' := by
 have HU := Lib.hid h; clear h
 have HT := Lib.hid htab; clear htab
 go_enter Tryz.func145, Tryz.ntmps145
 go_wp2_with fail
 refine (fmt_any u HU.out _ HT.out).mono ?_
 rintro e w1 ⟨rfl, hb1⟩
 go_wp2
 go_ret
 exact ⟨rfl, hb1⟩

theorem text_any (u : Nat) (h : u < 18446744073709551616) (w : World) (htab : Tab w) :
  Calls Tryz.prog 117 #[.int .u64 u] w fun e w' => e = .returned (.string ⟨(Lib.decDigits u).toArray⟩) ∧ Below w.heap.size w w' := by
 have HU := Lib.hid h; clear h
 have HT := Lib.hid htab; clear htab
 go_enter Tryz.func117, Tryz.ntmps117
 go_wp2_with fail
 refine (format_any u HU.out _ HT.out).mono ?_
 rintro e w1 ⟨rfl, hb1⟩
 go_wp2
 go_ret
 exact ⟨rfl, hb1⟩

theorem dec_all (u : Nat) : AllDig (Lib.decDigits u) := by
 induction u using Nat.strongRecOn with
 | _ u ih =>
  rw [Lib.decDigits]
  split
  ·rename_i h
   intro b hb
   simp only [List.mem_singleton] at hb
   subst hb
   rw [isDig_iff, UInt8.toNat_ofNat']; omega
  ·rename_i h
   intro b hb
   rw [List.mem_append] at hb
   rcases hb with hb | hb
   ·exact ih (u / 10) (by omega) b hb
   ·simp only [List.mem_singleton] at hb
    subst hb
    rw [isDig_iff, UInt8.toNat_ofNat']; omega
theorem dec_val (u : Nat) : val (Lib.decDigits u) = u := by
 induction u using Nat.strongRecOn with
 | _ u ih =>
  rw [Lib.decDigits]
  split
  ·rename_i h
   rw [val_cons]
   simp [UInt8.toNat_ofNat', val, valFrom]; omega
  ·rename_i h
   rw [val_snoc, ih (u / 10) (by omega), UInt8.toNat_ofNat']; omega
theorem dec_pos (u : Nat) : 0 < (Lib.decDigits u).length := by rw [Lib.decDigits_length]; exact Lib.nDigits_pos u
theorem nd_le : ∀ (k u : Nat), u < 10 ^ k → 1 ≤ k → Lib.nDigits u ≤ k
 | 0, _, _, h => by omega
 | k + 1, u, h1, _ => by
  by_cases h : u < 10
  ·rw [Lib.nDigits_small h]; omega
  ·rw [Lib.nDigits_big h]
   rw [Nat.pow_succ] at h1
   rcases Nat.eq_zero_or_pos k with h0 | h0
   ·subst h0; simp at h1; omega
   ·have := nd_le k (u / 10) (by omega) h0
    omega
theorem dec_pad (u : Nat) : pad (Lib.decDigits u) = false := by
 rw [pad_no]
 rintro ⟨h1, h2⟩
 rw [Lib.decDigits_length] at h1
 have hv := dec_val u
 have hl := Lib.decDigits_length u
 cases hd : Lib.decDigits u with
 | nil => rw [hd] at hl; simp at hl; omega
 | cons b r =>
  rw [hd] at hv h2 hl
  have ha := dec_all u
  rw [hd, allDig_cons] at ha
  have hr := val_lt ha.2
  have hb : b.toNat = 48 := by simpa using h2
  rw [val_cons, hb] at hv
  simp at hv hl
  rw [hv] at hr
  have := nd_le r.length u hr (by omega)
  omega
theorem dec_num (u : Nat) : isNum (Lib.decDigits u) = true := by
 rw [isNum_iff]
 exact ⟨dec_pos u, run_all (dec_all u), dec_pad u⟩
end Go.Proofs.YtgfbflnhjpbceaaGreatDoor.Num
