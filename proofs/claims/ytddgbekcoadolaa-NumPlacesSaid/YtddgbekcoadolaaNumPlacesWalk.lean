/-
  The law NumPlaces answers true for any two slices of bytes, and writes nothing that was there. Condition: the slices read as lists of bytes.
-/
import Derived.Test.YtddgbekcoadolaaNumAppend
namespace Go.Proofs.Ytddgbekcoadolaa.Num
open Go.RowKit

set_option maxHeartbeats 800000 in
theorem places_any (A0 : Option Addr) (n0 c0 : Nat) (l0 : List UInt8) (A1 : Option Addr) (n1 c1 : Nat) (l1 : List UInt8) (w : World)
    (r0 : Row w A0 n0 l0) (hn0 : A0 = none → c0 = 0) (r1 : Row w A1 n1 l1) (hc1 : n1 ≤ c1) (hn1 : A1 = none → c1 = 0) :
    Calls Try.prog 5 #[.slice A0 n0 c0, .slice A1 n1 c1] w fun e w' => e = .returned (.bool true) ∧ Below w.heap.size w w' := by
  have m0 := r0.2.1
  have m1 := r1.2.1
  unfold maxLen at m0 m1
  have R0 := Lib.hid r0
  have R1 := Lib.hid r1
  have N0 := Lib.hid hn0
  have N1 := Lib.hid hn1
  clear r0 r1 hn0 hn1
  by_cases h0 : 100 < n0
  · go_enter Try.func5, Try.ntmps5
    go_wp2_with fail
    refine (awake_any _).mono ?_
    rintro e w1 ⟨rfl, hb1⟩
    go_wp2
    go_ret
    exact ⟨rfl, hb1⟩
  by_cases h1 : 100 < n1
  · go_enter Try.func5, Try.ntmps5
    go_wp2_with fail
    refine (awake_any _).mono ?_
    rintro e w1 ⟨rfl, hb1⟩
    go_wp2
    go_ret
    exact ⟨rfl, hb1⟩
  go_enter Try.func5, Try.ntmps5
  go_wp2_with fail
  refine (awake_any _).mono ?_
  rintro e w1 ⟨rfl, hb1⟩
  go_wp2_with fail
  refine (parse_any _ _ _ l1 0 _ (R1.out.kept hb1) hc1).mono ?_
  rintro e w' ⟨rfl, rfl⟩
  unfold parseOut
  obtain ⟨⟨pv, pn, pe⟩, hp⟩ : ∃ t, parse l1 0 = t := ⟨_, rfl⟩
  rw [hp]
  have HP := Lib.hid hp; clear hp
  have hz1 := hb1.size
  have HO : Hid ((w1.alloc (.cells #[] 5)).ownsRow w1.heap.size 5 1 (.slice (some ⟨w1.heap.size, 0, none⟩) 0 0) 0 (cells [])) :=
    World.ownsRow_made w1 #[] 0 (Nat.le_refl _) (by unfold maxLen; omega) rfl
  have HB1 : Hid (Below w.heap.size w (w1.alloc (.cells #[] 5))) := hb1.alloc hz1 _
  go_wp2_with (first
    | (at_builtin; refine wpList_append_row _ rfl _ _ rfl w1.heap.size _ 0 [] rfl HO.out A0 n0 c0 l0 rfl (R0.out.kept HB1.out) N0.out (by omega) (by simp) ?_; intro A2 c2 w2 hc2 hr2 ho2 hb2; simp only [Nat.zero_add, List.nil_append] at ho2 hc2 ⊢; have hz2 : w1.heap.size ≤ w2.heap.size := Nat.le_trans (by simp) hb2.size; have HO2 := Lib.hid ho2; have HB2 := Lib.hid hb2; clear ho2 hr2 hb2; have HB3 := Lib.hid (HB1.out.trans (HB2.out.mono hz1)))
    | (at_builtin; refine wpList_append_row w2 rfl _ _ rfl w1.heap.size _ n0 l0 rfl HO2.out A1 n1 c1 l1 rfl (R1.out.kept HB3.out) N1.out (by omega) hz2 ?_; intro A3 c3 w3 hc3 hr3 ho3 hb3; have HR3 := Lib.hid hr3; have HB4 := Lib.hid (HB3.out.trans (hb3.mono hz1)); clear ho3 hr3 hb3)
    | fail)
  have HPP : Hid (parse (l0 ++ l1) n0 = (pv, pn, pe)) := by
    have e := parse_place l0 l1
    rw [R0.out.1, HP.out] at e; exact e
  refine (parse_any _ _ _ (l0 ++ l1) n0 _ HR3.out hc3).mono ?_
  rintro e w' ⟨rfl, rfl⟩
  unfold parseOut
  rw [HPP.out]
  go_wp2
  go_ret
  exact ⟨rfl, HB4.out⟩
end Go.Proofs.Ytddgbekcoadolaa.Num
