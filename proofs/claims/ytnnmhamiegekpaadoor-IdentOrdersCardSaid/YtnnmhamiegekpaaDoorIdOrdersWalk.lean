/-
  The law IdentOrders answers true for any three texts, and writes nothing that was there. Condition: the texts' lengths are those that the form allows.
-/
import Derived.Test.YtnnmhamiegekpaaDoorIdAwake
namespace Go.Proofs.YtnnmhamiegekpaaDoor.Ident
open Go.RowKit Num

set_option maxHeartbeats 800000 in
theorem orders_any (a b c : ByteArray) (w : World) (ha : a.size ≤ maxLen) (hb : b.size ≤ maxLen) (hc : c.size ≤ maxLen) :
    Calls Tryd.prog 5 #[.string a, .string b, .string c] w fun e w' => e = .returned (.bool true) ∧ Below w.heap.size w w' := by
  have HA := Lib.hid ha
  have HB := Lib.hid hb
  have HC := Lib.hid hc
  unfold maxLen at ha hb hc
  have short : ∀ (h : 300 < a.size ∨ 300 < b.size ∨ 300 < c.size), Calls Tryd.prog 5 #[.string a, .string b, .string c] w fun e w' => e = .returned (.bool true) ∧ Below w.heap.size w w' := by
    intro h
    by_cases h0 : 300 < a.size
    · clear h
      go_enter Tryd.func5, Tryd.ntmps5
      go_wp2_with fail
      refine (awake_any _).mono ?_
      rintro e w1 ⟨rfl, hb1⟩
      go_wp2
      go_ret
      exact ⟨rfl, hb1⟩
    by_cases h1 : 300 < b.size
    · clear h
      go_enter Tryd.func5, Tryd.ntmps5
      go_wp2_with fail
      refine (awake_any _).mono ?_
      rintro e w1 ⟨rfl, hb1⟩
      go_wp2
      go_ret
      exact ⟨rfl, hb1⟩
    have h2 : 300 < c.size := by omega
    clear h
    go_enter Tryd.func5, Tryd.ntmps5
    go_wp2_with fail
    refine (awake_any _).mono ?_
    rintro e w1 ⟨rfl, hb1⟩
    go_wp2
    go_ret
    exact ⟨rfl, hb1⟩
  by_cases h : 300 < a.size ∨ 300 < b.size ∨ 300 < c.size
  · exact short h
  clear short
  have h0 : ¬ 300 < a.size := by omega
  have h1 : ¬ 300 < b.size := by omega
  have h2 : ¬ 300 < c.size := by omega
  clear h
  have HT := Lib.hid (cmpId_trans a.data.toList b.data.toList c.data.toList)
  obtain ⟨x, hx⟩ : ∃ x, cmpId a.data.toList b.data.toList = x := ⟨_, rfl⟩
  obtain ⟨y, hy⟩ : ∃ y, cmpId b.data.toList c.data.toList = y := ⟨_, rfl⟩
  obtain ⟨z, hz⟩ : ∃ z, cmpId a.data.toList c.data.toList = z := ⟨_, rfl⟩
  rw [hx, hy, hz] at HT
  have HX := Lib.hid hx
  have HY := Lib.hid hy
  have HZ := Lib.hid hz
  clear hx hy hz
  by_cases hx0 : x ≤ 0
  · by_cases hy0 : y ≤ 0
    · have hz0 := HT.out hx0 hy0
      go_enter Tryd.func5, Tryd.ntmps5
      go_wp2_with fail
      refine (awake_any _).mono ?_
      rintro e w1 ⟨rfl, hb1⟩
      have hz1 := hb1.size
      go_wp2_with fail
      refine (idcmp_any _ _ _ HA.out HB.out).mono ?_
      rw [HX.out]
      rintro e w2 ⟨rfl, hb2⟩
      have HB2 := Lib.hid (hb1.trans (hb2.mono hz1))
      have hz2 := HB2.out.size
      go_wp2_with fail
      refine (idcmp_any _ _ _ HB.out HC.out).mono ?_
      rw [HY.out]
      rintro e w3 ⟨rfl, hb3⟩
      have HB3 := Lib.hid (HB2.out.trans (hb3.mono hz2))
      have hz3 := HB3.out.size
      go_wp2_with fail
      refine (idcmp_any _ _ _ HA.out HC.out).mono ?_
      rw [HZ.out]
      rintro e w4 ⟨rfl, hb4⟩
      have HB4 := Lib.hid (HB3.out.trans (hb4.mono hz3))
      clear hb1 hb2 hb3 hb4
      go_wp2
      go_ret
      exact ⟨rfl, HB4.out⟩
    · go_enter Tryd.func5, Tryd.ntmps5
      go_wp2_with fail
      refine (awake_any _).mono ?_
      rintro e w1 ⟨rfl, hb1⟩
      have hz1 := hb1.size
      go_wp2_with fail
      refine (idcmp_any _ _ _ HA.out HB.out).mono ?_
      rw [HX.out]
      rintro e w2 ⟨rfl, hb2⟩
      have HB2 := Lib.hid (hb1.trans (hb2.mono hz1))
      have hz2 := HB2.out.size
      go_wp2_with fail
      refine (idcmp_any _ _ _ HB.out HC.out).mono ?_
      rw [HY.out]
      rintro e w3 ⟨rfl, hb3⟩
      have HB3 := Lib.hid (HB2.out.trans (hb3.mono hz2))
      clear hb1 hb2 hb3
      go_wp2
      go_ret
      exact ⟨rfl, HB3.out⟩
  · go_enter Tryd.func5, Tryd.ntmps5
    go_wp2_with fail
    refine (awake_any _).mono ?_
    rintro e w1 ⟨rfl, hb1⟩
    have hz1 := hb1.size
    go_wp2_with fail
    refine (idcmp_any _ _ _ HA.out HB.out).mono ?_
    rw [HX.out]
    rintro e w2 ⟨rfl, hb2⟩
    have HB2 := Lib.hid (hb1.trans (hb2.mono hz1))
    clear hb1 hb2
    go_wp2
    go_ret
    exact ⟨rfl, HB2.out⟩
end Go.Proofs.YtnnmhamiegekpaaDoor.Ident
