/-
  Where a name stands among others, as the document's own answer has it (ferruleref08.Find). Condition: the slice reads as the list of texts.
-/
import Derived.Test.YtpgfolfhfhfdhaaNaMath
import Derived.Test.YtpgfolfhfhfdhaaIdMem
namespace Go.Proofs.Ytpgfolfhfhfdhaa.Name
open Go.RowKit Num Ident

/-- The place, or -1. -/
def findI (x : List (List UInt8)) (s : List UInt8) : Int := if find x s < x.length then ((find x s : Nat) : Int) else -1
theorem mk_inj {a b : List UInt8} (h : mk a = mk b) : a = b := by have := congrArg (fun z : ByteArray => z.data.toList) h; exact this
set_option maxRecDepth 100000 in
set_option maxHeartbeats 800000 in
theorem ref_find_any (A : Option Addr) (n c : Nat) (x : List (List UInt8)) (s : ByteArray) (w : World) (hA : SRow w A n x) (hn : n ≤ maxLen) :
    Calls Try.prog 13 #[.slice A n c, .string s] w fun e w' => e = .returned (.int .i64 (findI x s.data.toList)) ∧ w = w' := by
  unfold maxLen at hn
  have HA := Lib.hid hA
  have HL := Lib.hid hA.1
  clear hA
  go_enter Try.func13, Try.ntmps13
  go_wp2
  go_loop [5] (fun t => ∃ k : Nat, k ≤ n ∧ t = .int .i64 k ∧ Hid (∀ j, j < k → x.getD j [] ≠ s.data.toList)) (fun t => n - (intOf t).toNat)
  case atStart => exact ⟨0, by omega, rfl, fun j h => by omega⟩
  case round =>
    obtain ⟨k, hk, rfl, HD⟩ := hrel
    by_cases hlt : k < n
    · obtain ⟨g1, o1, rfl, hg1, hc1⟩ := HA.out.2 (by omega)
      have hx1 := hc1 k hlt
      clear hc1
      obtain ⟨t, ht⟩ : ∃ t, mk (x.getD k []) = t := ⟨_, rfl⟩
      have HT := Lib.hid ht
      rw [ht] at hx1
      clear ht
      by_cases hst : t = s
      · subst hst
        have HF : Hid (findI x t.data.toList = k) := by
          have e := find_stop x t.data.toList k (by rw [HL.out]; omega) HD.out (.inr (by rw [← HT.out]; rfl))
          unfold Hid findI; rw [e, if_pos (by rw [HL.out]; exact hlt)]
        have hq : (t.toList == t.toList) = true := by simp
        go_wp2
        go_ret
        exact ⟨by rw [HF.out]; rfl, rfl⟩
      · have HN : Hid (x.getD k [] ≠ s.data.toList) := fun h => hst (by rw [← HT.out, h]; rfl)
        have hq : (t.toList == s.toList) = false := by
          rw [Lib.toList_data, Lib.toList_data, beq_eq_false_iff_ne]
          exact fun h => hst (by have := congrArg mk h; exact this)
        clear hst
        go_wp2
        go_round
        case rel =>
          refine ⟨k + 1, by omega, by go_num, fun j hj => ?_⟩
          rcases Nat.lt_or_ge j k with hj1 | hj1
          · exact HD.out j hj1
          · obtain rfl : j = k := by omega
            exact HN.out
        case measure => simp [intOf]; omega
    · obtain rfl : k = n := by omega
      have HF : Hid (findI x s.data.toList = -1) := by
        have e := find_stop x s.data.toList k (by rw [HL.out]; exact Nat.le_refl _) HD.out (.inl HL.out.symm)
        unfold Hid findI; rw [e, if_neg (by rw [HL.out]; omega)]
      go_wp2
      go_ret
      exact ⟨by rw [HF.out]; rfl, rfl⟩
end Go.Proofs.Ytpgfolfhfhfdhaa.Name
