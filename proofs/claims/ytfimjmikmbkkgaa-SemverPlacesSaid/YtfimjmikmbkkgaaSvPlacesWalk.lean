/-
  The law SemverPlaces answers true for any two slices of bytes, and writes nothing that was there. Condition: the slices read as lists of bytes.
-/
import Derived.Test.YtfimjmikmbkkgaaSvAwake
import Derived.Test.YtfimjmikmbkkgaaSvSame
namespace Go.Proofs.Ytfimjmikmbkkgaa.Semver
open Go.RowKit Num Ident

set_option maxRecDepth 100000 in
set_option maxHeartbeats 1600000 in
theorem semverPlaces_any (A0 : Option Addr) (n0 c0 : Nat) (l0 : List UInt8) (A1 : Option Addr) (n1 c1 : Nat) (l1 : List UInt8) (w : World)
    (r0 : Row w A0 n0 l0) (hn0 : A0 = none → c0 = 0) (r1 : Row w A1 n1 l1) (hc1 : n1 ≤ c1) (hn1 : A1 = none → c1 = 0) :
    Calls Try.prog 4 #[.slice A0 n0 c0, .slice A1 n1 c1] w fun e w' => e = .returned (.bool true) ∧ Below w.heap.size w w' := by
  have m0 := r0.2.1
  have m1 := r1.2.1
  unfold maxLen at m0 m1
  have R0 := Lib.hid r0
  have R1 := Lib.hid r1
  have N0 := Lib.hid hn0
  have N1 := Lib.hid hn1
  clear r0 r1 hn0 hn1
  by_cases h0 : 200 < n0
  · go_enter Try.func4, Try.ntmps4
    go_wp2_with fail
    refine (awake_any _).mono ?_
    rintro e w1 ⟨rfl, hb1⟩
    go_wp2
    go_ret
    exact ⟨rfl, hb1⟩
  by_cases h1 : 200 < n1
  · go_enter Try.func4, Try.ntmps4
    go_wp2_with fail
    refine (awake_any _).mono ?_
    rintro e w1 ⟨rfl, hb1⟩
    go_wp2
    go_ret
    exact ⟨rfl, hb1⟩
  have LP := Lib.hid (vparse_len l1 0)
  have LE := Lib.hid (vparse_end l1 0)
  have HP := Lib.hid (fun A n c W hW hc => parse_any A n c l1 0 W hW hc)
  have HPP := Lib.hid (fun A n c W hW hc => parse_any A n c (l0 ++ l1) n0 W hW hc)
  have e := vparse_place l0 l1
  rw [R0.out.1] at e
  rw [e] at HPP
  clear e
  obtain ⟨⟨f, q, v⟩, hk⟩ : ∃ t, vparse l1 0 = t := ⟨_, rfl⟩
  rw [hk] at HP HPP LP LE
  clear hk
  have hq : q ≤ n1 := by have := LE.out; rw [R1.out.1] at this; exact this
  go_enter Try.func4, Try.ntmps4
  go_wp2_with fail
  refine (awake_any _).mono ?_
  rintro e w1 ⟨rfl, hb1⟩
  have HB1 := Lib.hid hb1; clear hb1
  have hz1 := HB1.out.size
  go_wp2_with fail
  refine (HP.out _ _ _ _ (R1.out.kept HB1.out) hc1).mono ?_
  rintro e w2 ⟨A2, c2, A3, c3, rfl, hc2, hc3, r1, r2, hb2⟩
  simp only at r1 r2 ⊢
  have HB2' := Lib.hid (HB1.out.trans (hb2.mono hz1))
  have hz2 := HB2'.out.size
  have HBa := Lib.hid ((Below.refl w2.heap.size w2).alloc (Nat.le_refl _) (.cells #[.int .u64 (v.a : Int), .int .u64 (v.b : Int), .int .u64 (v.c : Int), .slice A2 v.pre.length c2, .slice A3 v.build.length c3] 27))
  have K1' := Lib.hid (At5.new w2 27 (.int .u64 (v.a : Int)) (.int .u64 (v.b : Int)) (.int .u64 (v.c : Int)) (.slice A2 v.pre.length c2) (.slice A3 v.build.length c3))
  have S1' := Lib.hid (r1.kept HBa.out)
  have S2' := Lib.hid (r2.kept HBa.out)
  have HB2 := Lib.hid (HB2'.out.trans (HBa.out.mono hz2))
  clear r1 r2 hb2 hc2 hc3
  go_upto_region 6 with (fail)
  clear HBa HB2' HB1
  have hl2 := K1'.out.1
  generalize w2.alloc (.cells #[.int .u64 (v.a : Int), .int .u64 (v.b : Int), .int .u64 (v.c : Int), .slice A2 v.pre.length c2, .slice A3 v.build.length c3] 27) = W at K1' S1' S2' HB2 hl2 ⊢
  generalize w2.heap.size = b2 at *
  have hzW := HB2.out.size
  have HO : Hid ((W.alloc (.cells #[] 5)).ownsRow W.heap.size 5 1 (.slice (some ⟨W.heap.size, 0, none⟩) 0 0) 0 (cells [])) :=
    World.ownsRow_made W #[] 0 (Nat.le_refl _) (by unfold maxLen; omega) rfl
  have HBn := Lib.hid ((Below.refl W.heap.size W).alloc (Nat.le_refl _) (.cells #[] 5))
  have HB3 := Lib.hid (HB2.out.trans (HBn.out.mono hzW))
  go_wp2_with (first
    | (at_builtin; refine wpList_append_row _ rfl _ _ rfl W.heap.size _ 0 [] rfl HO.out A0 n0 c0 l0 rfl (R0.out.kept HB3.out) N0.out (by omega) (by simp) ?_; intro A4 c4 w4 hc4 hr4 ho4 hb4; simp only [Nat.zero_add, List.nil_append] at ho4 hc4 ⊢; have hz4 : W.heap.size ≤ w4.heap.size := Nat.le_trans (by simp) hb4.size; have HO4 := Lib.hid ho4; have HBm := Lib.hid (HBn.out.trans hb4); clear ho4 hr4 hb4; have HB4 := Lib.hid (HB2.out.trans (HBm.out.mono hzW)))
    | (at_builtin; refine wpList_append_row w4 rfl _ _ rfl W.heap.size _ n0 l0 rfl HO4.out A1 n1 c1 l1 rfl (R1.out.kept HB4.out) N1.out (by omega) hz4 ?_; intro A5 c5 w5 hc5 hr5 ho5 hb5; have HR5 := Lib.hid hr5; have HBk := Lib.hid (HBm.out.trans hb5); clear ho5 hr5 hb5; have HB5 := Lib.hid (HB2.out.trans (HBk.out.mono hzW)))
    | fail)
  refine (HPP.out _ _ _ _ HR5.out hc5).mono ?_
  rintro e w6 ⟨B2, d2, B3, d3, rfl, _, _, r1, r2, hb6⟩
  simp only [move] at r1 r2 ⊢
  have hz5 := HBk.out.size
  have hz5w := HB5.out.size
  have K1 := Lib.hid ((K1'.out.kept HBk.out hl2).kept hb6 (by omega))
  have S1 := Lib.hid ((S1'.out.kept HBk.out).kept hb6)
  have S2 := Lib.hid ((S2'.out.kept HBk.out).kept hb6)
  have HB6' := Lib.hid (HB5.out.trans (hb6.mono hz5w))
  have hz6 := HB6'.out.size
  have HBc := Lib.hid ((Below.refl w6.heap.size w6).alloc (Nat.le_refl _) (.cells #[.int .u64 (v.a : Int), .int .u64 (v.b : Int), .int .u64 (v.c : Int), .slice B2 v.pre.length d2, .slice B3 v.build.length d3] 27))
  have K2 := Lib.hid (At5.new w6 27 (.int .u64 (v.a : Int)) (.int .u64 (v.b : Int)) (.int .u64 (v.c : Int)) (.slice B2 v.pre.length d2) (.slice B3 v.build.length d3))
  have Q1 := Lib.hid (K1.out.kept HBc.out K1.out.1)
  have T1 := Lib.hid (S1.out.kept HBc.out)
  have T2 := Lib.hid (S2.out.kept HBc.out)
  have T3 := Lib.hid (r1.kept HBc.out)
  have T4 := Lib.hid (r2.kept HBc.out)
  have HB6 := Lib.hid (HB6'.out.trans (HBc.out.mono hz6))
  clear r1 r2 hb6 HBc HBk HBm HBn HO HO4 K1 K1' S1 S1' S2 S2'
  go_upto_region 7 with (fail)
  generalize w6.alloc (.cells #[.int .u64 (v.a : Int), .int .u64 (v.b : Int), .int .u64 (v.c : Int), .slice B2 v.pre.length d2, .slice B3 v.build.length d3] 27) = W7 at K2 Q1 T1 T2 T3 T4 HB6 ⊢
  generalize w6.heap.size = b6 at *
  obtain ⟨_, _, x0, x1, x2, x3, x4⟩ := Q1.out
  obtain ⟨_, _, y0, y1, y2, y3, y4⟩ := K2.out
  go_wp2_with fail
  refine (same_self v _ _ _ _ _ _ _ _ _ T1.out T2.out T3.out T4.out LP.out).mono ?_
  rintro e w8 ⟨rfl, hb8⟩
  have HB8 := Lib.hid (HB6.out.trans (hb8.mono HB6.out.size))
  clear hb8 x0 x1 x2 x3 x4 y0 y1 y2 y3 y4
  have hsum : ((n0 : Int) + (q : Int) == (q : Int) + (n0 : Int)) = true := by rw [beq_iff_eq]; omega
  go_wp2
  go_ret
  exact ⟨rfl, HB8.out⟩
end Go.Proofs.Ytfimjmikmbkkgaa.Semver
