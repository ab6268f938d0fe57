/-
  The law IdentLonger answers true for any row and any two texts, and writes nothing that was there. Conditions: the slice reads as the list xs; the texts' lengths are those that the form allows.
-/
import Derived.Test.YtnnmhamiegekpaaDoorIdAwake
import Derived.Test.YtnnmhamiegekpaaDoorIdRows
import Derived.Test.YtnnmhamiegekpaaDoorIdShort
namespace Go.Proofs.YtnnmhamiegekpaaDoor.Ident
open Go.RowKit Num

set_option maxHeartbeats 800000 in
theorem longer_out (A : Option Addr) (n c : Nat) (xs : List (List UInt8)) (a b : ByteArray) (w : World) (hr : SRow w A n xs) (hn : n ≤ maxLen) (ha : a.size ≤ maxLen) (hb : b.size ≤ maxLen)
    (ho : 20 < n ∨ shortB xs = false ∨ 300 < a.size ∨ 300 < b.size) :
    Calls Tryd.prog 6 #[.slice A n c, .string a, .string b] w fun e w' => e = .returned (.bool true) ∧ Below w.heap.size w w' := by
  have HN := Lib.hid hn
  unfold maxLen at hn ha hb
  have HR := Lib.hid hr; clear hr
  by_cases h0 : 20 < n
  · clear ho
    go_enter Tryd.func6, Tryd.ntmps6
    go_wp2_with fail
    refine (awake_any _).mono ?_
    rintro e w1 ⟨rfl, hb1⟩
    go_wp2
    go_ret
    exact ⟨rfl, hb1⟩
  cases h1 : shortB xs
  · clear ho
    have H1 := Lib.hid h1; clear h1
    go_enter Tryd.func6, Tryd.ntmps6
    go_wp2_with fail
    refine (awake_any _).mono ?_
    rintro e w1 ⟨rfl, hb1⟩
    go_wp2_with fail
    refine (short_any _ _ _ _ _ (HR.out.kept hb1) HN.out).mono ?_
    rw [H1.out]
    rintro e w' ⟨rfl, rfl⟩
    go_wp2
    go_ret
    exact ⟨rfl, hb1⟩
  · have H1 := Lib.hid h1
    by_cases h2 : 300 < a.size
    · clear ho h1
      go_enter Tryd.func6, Tryd.ntmps6
      go_wp2_with fail
      refine (awake_any _).mono ?_
      rintro e w1 ⟨rfl, hb1⟩
      go_wp2_with fail
      refine (short_any _ _ _ _ _ (HR.out.kept hb1) HN.out).mono ?_
      rw [H1.out]
      rintro e w' ⟨rfl, rfl⟩
      go_wp2
      go_ret
      exact ⟨rfl, hb1⟩
    · have h3 : 300 < b.size := by
        rcases ho with h | h | h | h
        · omega
        · rw [h1] at h; cases h
        · omega
        · exact h
      clear ho h1
      go_enter Tryd.func6, Tryd.ntmps6
      go_wp2_with fail
      refine (awake_any _).mono ?_
      rintro e w1 ⟨rfl, hb1⟩
      go_wp2_with fail
      refine (short_any _ _ _ _ _ (HR.out.kept hb1) HN.out).mono ?_
      rw [H1.out]
      rintro e w' ⟨rfl, rfl⟩
      go_wp2
      go_ret
      exact ⟨rfl, hb1⟩

set_option maxRecDepth 100000 in
set_option maxHeartbeats 1600000 in
theorem longer_in (A : Option Addr) (n c : Nat) (xs : List (List UInt8)) (a b : ByteArray) (w : World) (hr : SRow w A n xs) (hnil : A = none → c = 0) (h0 : n ≤ 20) (h1 : shortB xs = true) (h2 : a.size ≤ 300) (h3 : b.size ≤ 300) :
    Calls Tryd.prog 6 #[.slice A n c, .string a, .string b] w fun e w' => e = .returned (.bool true) ∧ Below w.heap.size w w' := by
  have H1 := Lib.hid h1
  have HR := Lib.hid hr
  have HN := Lib.hid hnil
  have HXS : Hid (∀ x ∈ xs, x.length ≤ maxLen) := fun x hx => by have := ((shortB_iff xs).1 h1).2 x hx; unfold maxLen; omega
  have HXA : Hid (∀ x ∈ xs ++ [a.data.toList], x.length ≤ maxLen) := fun x hx => by
    rcases List.mem_append.1 hx with h | h
    · exact HXS.out x h
    · obtain rfl := List.mem_singleton.1 h
      rw [← Lib.size_eq]; unfold maxLen; omega
  have HXB : Hid (∀ x ∈ xs ++ [b.data.toList], x.length ≤ maxLen) := fun x hx => by
    rcases List.mem_append.1 hx with h | h
    · exact HXS.out x h
    · obtain rfl := List.mem_singleton.1 h
      rw [← Lib.size_eq]; unfold maxLen; omega
  have HM : Hid (n ≤ maxLen) := by unfold Hid maxLen; omega
  have HM1 : Hid (n + 1 ≤ maxLen) := by unfold Hid maxLen; omega
  clear hr hnil h1
  go_enter Tryd.func6, Tryd.ntmps6
  go_wp2_with fail
  refine (awake_any _).mono ?_
  rintro e w1 ⟨rfl, hb1⟩
  have HB1 := Lib.hid hb1; clear hb1
  have hz1 := HB1.out.size
  go_wp2_with fail
  refine (short_any _ _ _ _ _ (HR.out.kept HB1.out) HM.out).mono ?_
  rw [H1.out]
  rintro e w' ⟨rfl, rfl⟩
  have HO : Hid ((w1.alloc (.cells #[] 9)).ownsRow w1.heap.size 9 1 (.slice (some ⟨w1.heap.size, 0, none⟩) 0 0) 0 (strs [])) :=
    World.ownsRow_made w1 #[] 0 (Nat.le_refl _) (by unfold maxLen; omega) rfl
  have HBA : Hid (Below w.heap.size w (w1.alloc (.cells #[] 9))) := HB1.out.alloc hz1 _
  go_wp2_with (first
    | (at_builtin; refine wpList_append_strs _ rfl _ _ rfl w1.heap.size _ 0 [] rfl HO.out A n c xs rfl (HR.out.kept HBA.out) HN.out (by omega) (by simp) ?_; intro v2 w2 ho2 hb2; simp only [Nat.zero_add, List.nil_append] at ho2; obtain ⟨A2, c2, rfl, hc2, _⟩ := SRow.of_own ho2; have hz2 : w1.heap.size ≤ w2.heap.size := Nat.le_trans (by simp) hb2.size; have HO2 := Lib.hid (ho2.alloc (.cells #[.string a] 9)); have HB2 := Lib.hid ((HBA.out.trans (hb2.mono hz1)).alloc (Nat.le_trans hz1 hz2) (.cells #[.string a] 9)); clear ho2 hb2)
    | (at_builtin; refine wpList_append_strs _ rfl _ _ rfl w1.heap.size _ n xs rfl HO2.out (some ⟨w2.heap.size, 0, none⟩) 1 1 [a.data.toList] rfl (SRow.one w2 a.data.toList) (fun h => by cases h) (by omega) (by simp; omega) ?_; intro v3 w3 ho3 hb3; obtain ⟨A3, c3, rfl, hc3, hr3⟩ := SRow.of_own ho3; have HR3 := Lib.hid hr3; have HB3 := Lib.hid (HB2.out.trans (hb3.mono hz1)); have hz3 := HB3.out.size; clear ho3 hb3 hr3; have HO3 := Lib.hid (show (w3.alloc (.cells #[] 9)).ownsRow w3.heap.size 9 1 (.slice (some ⟨w3.heap.size, 0, none⟩) 0 0) 0 (strs []) from World.ownsRow_made w3 #[] 0 (Nat.le_refl _) (by unfold maxLen; omega) rfl); have HBB := Lib.hid ((Below.refl w3.heap.size w3).alloc (Nat.le_refl _) (.cells #[] 9)))
    | (at_builtin; refine wpList_append_strs _ rfl _ _ rfl w3.heap.size _ 0 [] rfl HO3.out A n c xs rfl ((HR.out.kept HB3.out).kept HBB.out) HN.out (by omega) (by simp) ?_; intro v4 w4 ho4 hb4; simp only [Nat.zero_add, List.nil_append] at ho4; obtain ⟨A4, c4, rfl, hc4, _⟩ := SRow.of_own ho4; have hz4 : w3.heap.size ≤ w4.heap.size := Nat.le_trans (by simp) hb4.size; have HO4 := Lib.hid (ho4.alloc (.cells #[.string b] 9)); have HB4 := Lib.hid ((HBB.out.trans hb4).alloc hz4 (.cells #[.string b] 9)); clear ho4 hb4)
    | (at_builtin; refine wpList_append_strs _ rfl _ _ rfl w3.heap.size _ n xs rfl HO4.out (some ⟨w4.heap.size, 0, none⟩) 1 1 [b.data.toList] rfl (SRow.one w4 b.data.toList) (fun h => by cases h) (by omega) (by simp; omega) ?_; intro v5 w5 ho5 hb5; obtain ⟨A5, c5, rfl, hc5, hr5⟩ := SRow.of_own ho5; have HR5 := Lib.hid hr5; have HB5 := Lib.hid (HB4.out.trans hb5); clear ho5 hb5 hr5)
    | fail)
  have HW5 := Lib.hid (HB3.out.trans (HB5.out.mono hz3))
  have hz5 := HW5.out.size
  have HX5 := Lib.hid (HR3.out.kept HB5.out)
  refine (rows_any A n c xs A3 (n + 1) c3 (xs ++ [a.data.toList]) _ (HR.out.kept HW5.out) HX5.out HM.out HM1.out HXS.out HXA.out).mono ?_
  rw [cmpRows_longer]
  rintro e w6 ⟨rfl, hb6⟩
  have HX6 := Lib.hid (HX5.out.kept hb6)
  have HY6 := Lib.hid (HR5.out.kept hb6)
  have HW6 := Lib.hid (HW5.out.trans (hb6.mono hz5))
  clear hb6
  have hz6 := HW6.out.size
  go_wp2_with fail
  refine (rows_any A3 (n + 1) c3 (xs ++ [a.data.toList]) A n c xs _ HX6.out (HR.out.kept HW6.out) HM1.out HM.out HXA.out HXS.out).mono ?_
  rw [cmpRows_shorter]
  rintro e w7 ⟨rfl, hb7⟩
  have HX7 := Lib.hid (HX6.out.kept hb7)
  have HY7 := Lib.hid (HY6.out.kept hb7)
  have HW7 := Lib.hid (HW6.out.trans (hb7.mono hz6))
  clear hb7
  have hz7 := HW7.out.size
  go_wp2_with fail
  refine (rows_any A3 (n + 1) c3 (xs ++ [a.data.toList]) A5 (n + 1) c5 (xs ++ [b.data.toList]) _ HX7.out HY7.out HM1.out HM1.out HXA.out HXB.out).mono ?_
  rw [cmpRows_last]
  rintro e w8 ⟨rfl, hb8⟩
  have HW8 := Lib.hid (HW7.out.trans (hb8.mono hz7))
  clear hb8
  have hz8 := HW8.out.size
  go_wp2_with fail
  refine (idcmp_any a b _ (by unfold maxLen; omega) (by unfold maxLen; omega)).mono ?_
  rintro e w9 ⟨rfl, hb9⟩
  have HW9 := Lib.hid (HW8.out.trans (hb9.mono hz8))
  clear hb9
  generalize cmpId a.data.toList b.data.toList = r
  go_wp2
  go_ret
  exact ⟨rfl, HW9.out⟩

theorem longer_any (A : Option Addr) (n c : Nat) (xs : List (List UInt8)) (a b : ByteArray) (w : World) (hr : SRow w A n xs) (hnil : A = none → c = 0) (hn : n ≤ maxLen) (ha : a.size ≤ maxLen) (hb : b.size ≤ maxLen) :
    Calls Tryd.prog 6 #[.slice A n c, .string a, .string b] w fun e w' => e = .returned (.bool true) ∧ Below w.heap.size w w' := by
  by_cases ho : 20 < n ∨ shortB xs = false ∨ 300 < a.size ∨ 300 < b.size
  · exact longer_out A n c xs a b w hr hn ha hb ho
  · refine longer_in A n c xs a b w hr hnil (by omega) ?_ (by omega) (by omega)
    cases h : shortB xs
    · exact absurd (.inr (.inl h)) ho
    · rfl
end Go.Proofs.YtnnmhamiegekpaaDoor.Ident
