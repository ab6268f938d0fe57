/-
  How the names of two numbers compare (Order's closure), and what strings.Compare's answer says of the order of texts. Conditions: the closure's variable holds the table; the numbers are names'.
-/
import Derived.Test.YtpgfolfhfhfdhaaNaOps
import Derived.Test.YtpgfolfhfhfdhaaShelf
import Derived.StillTailTactics
namespace Go.Proofs.Ytpgfolfhfhfdhaa.Name
open Go.RowKit Num Ident Fr

theorem cmp_neg : ∀ (a b : List UInt8), Lib.compareBytes a b < 0 ↔ a < b
  | [], [] => by simp [Lib.compareBytes]
  | [], y :: b => by simp [Lib.compareBytes]
  | x :: a, [] => by simp [Lib.compareBytes]
  | x :: a, y :: b => by
    rw [List.cons_lt_cons_iff]
    unfold Lib.compareBytes
    by_cases h1 : x < y
    · rw [if_pos h1]; simp [h1]
    · rw [if_neg h1]
      by_cases h2 : y < x
      · rw [if_pos h2]
        have h3 : x ≠ y := fun e => by subst e; exact h1 h2
        simp [h1, h3]
      · rw [if_neg h2, cmp_neg a b]
        have h3 : x = y := by
          have a1 : ¬ x.toNat < y.toNat := fun h => h1 (UInt8.lt_iff_toNat_lt.2 h)
          have a2 : ¬ y.toNat < x.toNat := fun h => h2 (UInt8.lt_iff_toNat_lt.2 h)
          exact UInt8.toNat_inj.1 (by omega)
        simp [h3, UInt8.lt_irrefl]
set_option maxRecDepth 100000 in
set_option maxHeartbeats 800000 in
theorem ord1_any (bx tb : Nat) (m : Value) (A : Option Addr) (n c : Nat) (x : List (List UInt8)) (i j : Nat) (w : World) (hbx : w.cell? ⟨bx, 0, none⟩ = some (.pointer (some ⟨tb, 0, none⟩))) (h2 : At2 w tb m (.slice A n c)) (hx : SRow w A n x) (hn : n ≤ 4096) (hi : i < n) (hj : j < n) :
    Calls Try.prog 24 #[.int .i64 i, .int .i64 j, .pointer (some ⟨bx, 0, none⟩)] w fun e w' => e = .returned (.int .i64 (Lib.compareBytes (x.getD i []) (x.getD j []))) ∧ w' = w.drew := by
  obtain ⟨lt1, hfr, c0, c1⟩ := h2
  obtain ⟨b, o, rfl, hlt, hcell⟩ := hx.2 (by omega)
  have hx1 := hcell i hi
  have hx2 := hcell j hj
  clear hcell hx
  generalize x.getD i [] = s at hx1 ⊢
  generalize x.getD j [] = t at hx2 ⊢
  go_enter Try.func24, Try.ntmps24
  go_wp2
  go_still_tail 14, (by kernel_rfl)
  change wpList _ _ _ _ _ w.drew
  have HC := Lib.hid (Try.strings_Compare (mk s) (mk t) w.drew)
  rw [mk_list, mk_list] at HC
  obtain ⟨w2, hw2⟩ : ∃ w2, w.drew = w2 := ⟨_, rfl⟩
  rw [hw2] at HC ⊢
  have HW := Lib.hid hw2
  clear hw2
  go_wp2_with fail
  refine HC.out.mono ?_
  rintro e w' ⟨rfl, rfl⟩
  go_wp2
  go_ret
  exact ⟨rfl, HW.out.symm⟩
end Go.Proofs.Ytpgfolfhfhfdhaa.Name
