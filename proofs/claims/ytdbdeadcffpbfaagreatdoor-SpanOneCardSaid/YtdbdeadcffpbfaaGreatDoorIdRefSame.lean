/-
  The document's own answer on whether two rows are the same (ferruleref02.Same). Condition: the slices read as the lists xs and ys.
-/
import Derived.Test.YtdbdeadcffpbfaaGreatDoorIdMem
import Derived.StillTailTactics
namespace Go.Proofs.YtdbdeadcffpbfaaGreatDoor.Ident
open Go.RowKit Num

set_option maxRecDepth 100000 in
set_option maxHeartbeats 800000 in
theorem same_any (A : Option Addr) (a ca : Nat) (xs : List (List UInt8)) (B : Option Addr) (b cb : Nat) (ys : List (List UInt8)) (w : World) (hA : SRow w A a xs) (hB : SRow w B b ys) (ha : a ≤ maxLen) (hb : b ≤ maxLen) :
    Calls Tryz.prog 42 #[.slice A a ca, .slice B b cb] w fun e w' => e = .returned (.bool (sameB xs ys)) ∧ Below w.heap.size w w' := by
  unfold maxLen at ha hb
  have HA := Lib.hid hA
  have HB := Lib.hid hB
  have HLA := Lib.hid hA.1
  have HLB := Lib.hid hB.1
  clear hA hB
  by_cases hab : a = b
  · subst hab
    go_enter Tryz.func42, Tryz.ntmps42
    go_wp2
    go_loopw [5] (fun i W => ∃ k : Nat, k ≤ a ∧ i = .int .i64 k ∧ Hid (∀ j, j < k → xs.getD j [] = ys.getD j []) ∧ Hid (Below w.heap.size w W)) (fun i _ => a - (intOf i).toNat)
    case atStart => exact ⟨0, Nat.zero_le _, rfl, (fun j hj => by omega), Below.refl _ _⟩
    case round =>
      obtain ⟨k, hk, rfl, HD, HW⟩ := hrel
      by_cases hlt : k < a
      · obtain ⟨g1, o1, rfl, hg1, hc1⟩ := (HA.out.kept HW.out).2 (by omega)
        obtain ⟨g2, o2, rfl, hg2, hc2⟩ := (HB.out.kept HW.out).2 (by omega)
        have hx1 := hc1 k hlt
        have hx2 := hc2 k hlt
        clear hc1 hc2
        obtain ⟨s, hs⟩ : ∃ s, mk (xs.getD k []) = s := ⟨_, rfl⟩
        obtain ⟨t, ht⟩ : ∃ t, mk (ys.getD k []) = t := ⟨_, rfl⟩
        have HS : Hid (s = t → xs.getD k [] = ys.getD k []) := fun h => by rw [← hs, ← ht] at h; have := congrArg (fun z : ByteArray => z.data.toList) h; exact this
        have HS2 : Hid (s ≠ t → xs ≠ ys) := fun h h2 => h (by rw [← hs, ← ht, h2])
        rw [hs] at hx1
        rw [ht] at hx2
        clear hs ht
        by_cases hst : s = t
        · have HS3 := Lib.hid (HS.out hst)
          subst hst
          have hq : (s.toList == s.toList) = true := by simp
          have hq2 : (s.toList != s.toList) = false := by simp
          go_wp2
          go_still (by kernel_rfl)
          have HW2 := Lib.hid HW.out.drew
          go_wp2
          refine ⟨⟨k + 1, by omega, by go_num, (fun j hj => ?_), HW2.out⟩, by simp [intOf]; omega⟩
          rcases Nat.lt_or_ge j k with hj1 | hj1
          · exact HD.out j hj1
          · obtain rfl : j = k := by omega
            exact HS3.out
        · have HS3 := Lib.hid (HS2.out hst)
          have hq : (s.toList == t.toList) = false := by
            rw [Lib.toList_data, Lib.toList_data, beq_eq_false_iff_ne]
            exact fun h => hst (by have := congrArg mk h; exact this)
          have hq2 : (s.toList != t.toList) = true := by rw [bne, hq]; rfl
          clear hst
          go_wp2
          go_still (by kernel_rfl)
          have HW2 := Lib.hid HW.out.drew
          go_wp2
          go_ret
          exact ⟨by rw [sameB_no HS3.out]; rfl, HW2.out⟩
      · have HF : Hid (sameB xs ys = true) := (sameB_iff xs ys).2 (List.ext_getElem (by rw [HLA.out, HLB.out]) fun j h1 h2 => by
          have := HD.out j (by rw [HLA.out] at h1; omega)
          simpa [List.getD, List.getElem?_eq_getElem h1, List.getElem?_eq_getElem h2] using this)
        go_wp2
        go_ret
        exact ⟨by rw [HF.out]; rfl, HW.out⟩
  · have HF : Hid (sameB xs ys = false) := sameB_no fun h => hab (by rw [← HLA.out, ← HLB.out, h])
    have hq : ((a : Int) == (b : Int)) = false := by simp; omega
    have hq2 : ((a : Int) != (b : Int)) = true := by simp; omega
    go_enter Tryz.func42, Tryz.ntmps42
    go_wp2
    go_ret
    exact ⟨by rw [HF.out]; rfl, Below.refl _ _⟩
end Go.Proofs.YtdbdeadcffpbfaaGreatDoor.Ident
