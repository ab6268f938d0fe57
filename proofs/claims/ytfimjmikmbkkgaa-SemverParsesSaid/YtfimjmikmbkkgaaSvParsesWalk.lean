/-
  The law SemverParses answers true for any bytes and any place, and writes nothing that was there. Condition: the slice reads as a list of bytes.
-/
import Derived.Test.YtfimjmikmbkkgaaSvAwake
import Derived.Test.YtfimjmikmbkkgaaSvRefRead
import Derived.Test.YtfimjmikmbkkgaaSvSame
namespace Go.Proofs.Ytfimjmikmbkkgaa.Semver
open Go.RowKit Num Ident

set_option maxRecDepth 100000 in
set_option maxHeartbeats 3200000 in
theorem semverParses_any (A : Option Addr) (n c : Nat) (l : List UInt8) (p : Int) (w : World) (r : Row w A n l) (hc : n ≤ c) :
    Calls Try.prog 3 #[.slice A n c, .int .i64 p] w fun e w' => e = .returned (.bool true) ∧ Below w.heap.size w w' := by
  have m0 := r.2.1
  unfold maxLen at m0
  have R := Lib.hid r
  have HL := Lib.hid r.1
  clear r
  by_cases h0 : 600 < n
  · go_enter Try.func3, Try.ntmps3
    go_wp2_with fail
    refine (awake_any _).mono ?_
    rintro e w1 ⟨rfl, hb1⟩
    go_wp2
    go_ret
    exact ⟨rfl, hb1⟩
  · have LP := Lib.hid (vparse_len l p)
    have LR := Lib.hid (vread_len l)
    have HP := Lib.hid (fun A n c W hW hc => parse_any A n c l p W hW hc)
    have HG := Lib.hid (fun W hs => refParse_any (mk l) p W hs)
    have HR := Lib.hid (fun W hs => read_any (mk l) W hs)
    have HS := Lib.hid (fun W hs => refRead_any (mk l) W hs)
    rw [mk_list] at HG HR HS
    have HZ : Hid ((mk l).size ≤ 600) := by unfold Hid; rw [mk_size, HL.out]; omega
    generalize vparse l p = o1 at LP HP HG
    generalize vread l = o2 at LR HR HS
    obtain ⟨f, q, v⟩ := o1
    obtain ⟨g, k, u⟩ := o2
    go_enter Try.func3, Try.ntmps3
    go_wp2_with fail
    refine (awake_any _).mono ?_
    rintro e w1 ⟨rfl, hb1⟩
    have HB1 := Lib.hid hb1; clear hb1
    have hz1 := HB1.out.size
    go_wp2_with fail
    refine (HP.out _ _ _ _ (R.out.kept HB1.out) hc).mono ?_
    rintro e w2 ⟨A1, c1, A2, c2, rfl, hc1, hc2, r1, r2, hb2⟩
    simp only at r1 r2 ⊢
    have HB2' := Lib.hid (HB1.out.trans (hb2.mono hz1))
    have hz2 := HB2'.out.size
    have HBa := Lib.hid ((Below.refl w2.heap.size w2).alloc (Nat.le_refl _) (.cells #[.int .u64 (v.a : Int), .int .u64 (v.b : Int), .int .u64 (v.c : Int), .slice A1 v.pre.length c1, .slice A2 v.build.length c2] 27))
    have K1 := Lib.hid (At5.new w2 27 (.int .u64 (v.a : Int)) (.int .u64 (v.b : Int)) (.int .u64 (v.c : Int)) (.slice A1 v.pre.length c1) (.slice A2 v.build.length c2))
    have R1 := Lib.hid (r1.kept HBa.out)
    have R2 := Lib.hid (r2.kept HBa.out)
    have HB2 := Lib.hid (HB2'.out.trans (HBa.out.mono hz2))
    clear r1 r2 hb2 hc1 hc2
    have htx := run_text (R.out.kept HB2.out) c
    go_wp2_with fail
    refine (HG.out _ HZ.out).mono ?_
    rintro e w3 ⟨B1, d1, B2, d2, rfl, _, _, r1, r2, hb3⟩
    simp only at r1 r2 ⊢
    have HB3' := Lib.hid (HB2.out.trans (hb3.mono (by simp; omega)))
    have hz3' := hb3.size
    have hz3 := HB3'.out.size
    have HBb := Lib.hid ((Below.refl w3.heap.size w3).alloc (Nat.le_refl _) (.cells #[.int .u64 (v.a : Int), .int .u64 (v.b : Int), .int .u64 (v.c : Int), .slice B1 v.pre.length d1, .slice B2 v.build.length d2, .int .i64 (q : Int), .int .i64 (f : Int)] 32))
    have K2 := Lib.hid (At7.new w3 32 (.int .u64 (v.a : Int)) (.int .u64 (v.b : Int)) (.int .u64 (v.c : Int)) (.slice B1 v.pre.length d1) (.slice B2 v.build.length d2) (.int .i64 (q : Int)) (.int .i64 (f : Int)))
    have K1' := Lib.hid ((K1.out.kept hb3 (by simp)).kept HBb.out (by simp at hz3'; omega))
    have R1' := Lib.hid ((R1.out.kept hb3).kept HBb.out)
    have R2' := Lib.hid ((R2.out.kept hb3).kept HBb.out)
    have R3 := Lib.hid (r1.kept HBb.out)
    have R4 := Lib.hid (r2.kept HBb.out)
    have HB3 := Lib.hid (HB3'.out.trans (HBb.out.mono hz3))
    clear r1 r2 hb3 htx
    have htx := run_text (R.out.kept HB3.out) c
    have hlt2 : w2.heap.size < w3.heap.size := by simp at hz3'; omega
    go_wp2_with fail
    refine (HR.out _ (by have := HZ.out; unfold maxLen; omega)).mono ?_
    rintro e w4 ⟨C1, a1, C2, a2, rfl, _, _, r1, r2, hb4⟩
    simp only at r1 r2 ⊢
    have HB4' := Lib.hid (HB3.out.trans (hb4.mono (by simp; omega)))
    have hz4' := hb4.size
    have hz4 := HB4'.out.size
    have hlt3 : w3.heap.size < w4.heap.size := by simp at hz4'; omega
    have HBc := Lib.hid ((Below.refl w4.heap.size w4).alloc (Nat.le_refl _) (.cells #[.int .u64 (u.a : Int), .int .u64 (u.b : Int), .int .u64 (u.c : Int), .slice C1 u.pre.length a1, .slice C2 u.build.length a2] 27))
    have K3 := Lib.hid (At5.new w4 27 (.int .u64 (u.a : Int)) (.int .u64 (u.b : Int)) (.int .u64 (u.c : Int)) (.slice C1 u.pre.length a1) (.slice C2 u.build.length a2))
    have K1 := Lib.hid ((K1'.out.kept hb4 (by simp; omega)).kept HBc.out (by omega))
    have K2' := Lib.hid ((K2.out.kept hb4 (by simp)).kept HBc.out (by omega))
    have R1 := Lib.hid ((R1'.out.kept hb4).kept HBc.out)
    have R2 := Lib.hid ((R2'.out.kept hb4).kept HBc.out)
    have R3' := Lib.hid ((R3.out.kept hb4).kept HBc.out)
    have R4' := Lib.hid ((R4.out.kept hb4).kept HBc.out)
    have R5 := Lib.hid (r1.kept HBc.out)
    have R6 := Lib.hid (r2.kept HBc.out)
    have HB4 := Lib.hid (HB4'.out.trans (HBc.out.mono hz4))
    clear r1 r2 hb4 htx
    have htx := run_text (R.out.kept HB4.out) c
    go_wp2_with fail
    refine (HS.out _ HZ.out).mono ?_
    rintro e w5 ⟨D1, e1, D2, e2, rfl, _, _, r1, r2, hb5⟩
    simp only at r1 r2 ⊢
    have HB5' := Lib.hid (HB4.out.trans (hb5.mono (by simp; omega)))
    have hz5' := hb5.size
    have hz5 := HB5'.out.size
    have hlt4 : w4.heap.size < w5.heap.size := by simp at hz5'; omega
    have HBd := Lib.hid ((Below.refl w5.heap.size w5).alloc (Nat.le_refl _) (.cells #[.int .u64 (u.a : Int), .int .u64 (u.b : Int), .int .u64 (u.c : Int), .slice D1 u.pre.length e1, .slice D2 u.build.length e2, .int .i64 (k : Int), .int .i64 (g : Int)] 32))
    have K4 := Lib.hid (At7.new w5 32 (.int .u64 (u.a : Int)) (.int .u64 (u.b : Int)) (.int .u64 (u.c : Int)) (.slice D1 u.pre.length e1) (.slice D2 u.build.length e2) (.int .i64 (k : Int)) (.int .i64 (g : Int)))
    have Q1 := Lib.hid ((K1.out.kept hb5 (by simp; omega)).kept HBd.out (by omega))
    have Q2 := Lib.hid ((K2'.out.kept hb5 (by simp; omega)).kept HBd.out (by omega))
    have Q3 := Lib.hid ((K3.out.kept hb5 (by simp)).kept HBd.out (by omega))
    have S1 := Lib.hid ((R1.out.kept hb5).kept HBd.out)
    have S2 := Lib.hid ((R2.out.kept hb5).kept HBd.out)
    have S3 := Lib.hid ((R3'.out.kept hb5).kept HBd.out)
    have S4 := Lib.hid ((R4'.out.kept hb5).kept HBd.out)
    have S5 := Lib.hid ((R5.out.kept hb5).kept HBd.out)
    have S6 := Lib.hid ((R6.out.kept hb5).kept HBd.out)
    have S7 := Lib.hid (r1.kept HBd.out)
    have S8 := Lib.hid (r2.kept HBd.out)
    have HB5 := Lib.hid (HB5'.out.trans (HBd.out.mono hz5))
    have hw : w5.heap.size < (w5.alloc (.cells #[.int .u64 (u.a : Int), .int .u64 (u.b : Int), .int .u64 (u.c : Int), .slice D1 u.pre.length e1, .slice D2 u.build.length e2, .int .i64 (k : Int), .int .i64 (g : Int)] 32)).heap.size := K4.out.1
    clear r1 r2 hb5 htx HBa HBb HBc HBd K1 K1' K2 K2' K3 R1 R2 R1' R2' R3 R4 R3' R4' R5 R6 HB1 HB2 HB2' HB3 HB3' HB4 HB4' HB5'
    go_upto_region 9 with (fail)
    generalize w5.alloc (.cells #[.int .u64 (u.a : Int), .int .u64 (u.b : Int), .int .u64 (u.c : Int), .slice D1 u.pre.length e1, .slice D2 u.build.length e2, .int .i64 (k : Int), .int .i64 (g : Int)] 32) = W at K4 Q1 Q2 Q3 S1 S2 S3 S4 S5 S6 S7 S8 HB5 hw ⊢
    generalize w2.heap.size = b2 at *
    generalize w3.heap.size = b3 at *
    generalize w4.heap.size = b4 at *
    generalize w5.heap.size = b5 at *
    obtain ⟨_, _, x0, x1, x2, x3, x4⟩ := Q1.out
    obtain ⟨_, _, y0, y1, y2, y3, y4, y5, y6⟩ := Q2.out
    have hzW := HB5.out.size
    go_wp2_with fail
    refine (same_self v _ _ _ _ _ _ _ _ _ S1.out S2.out S3.out S4.out LP.out).mono ?_
    rintro e w6 ⟨rfl, hb6⟩
    have T2 := Lib.hid (Q2.out.kept hb6 (by omega))
    have T3 := Lib.hid (Q3.out.kept hb6 (by omega))
    have T4 := Lib.hid (K4.out.kept hb6 (by omega))
    have U5 := Lib.hid (S5.out.kept hb6)
    have U6 := Lib.hid (S6.out.kept hb6)
    have U7 := Lib.hid (S7.out.kept hb6)
    have U8 := Lib.hid (S8.out.kept hb6)
    have HB6 := Lib.hid (HB5.out.trans (hb6.mono hzW))
    have hz6 := hb6.size
    clear hb6 x0 x1 x2 x3 x4 y0 y1 y2 y3 y4 y5 y6
    obtain ⟨_, _, y0, y1, y2, y3, y4, y5, y6⟩ := T2.out
    obtain ⟨_, _, x0, x1, x2, x3, x4⟩ := T3.out
    obtain ⟨_, _, z0, z1, z2, z3, z4, z5, z6⟩ := T4.out
    go_wp2_with fail
    refine (same_self u _ _ _ _ _ _ _ _ _ U5.out U6.out U7.out U8.out LR.out).mono ?_
    rintro e w7 ⟨rfl, hb7⟩
    have T5 := Lib.hid (T4.out.kept hb7 (by omega))
    have HB7 := Lib.hid (HB6.out.trans (hb7.mono (by omega)))
    clear hb7 x0 x1 x2 x3 x4 y0 y1 y2 y3 y4 y5 y6 z0 z1 z2 z3 z4 z5 z6
    obtain ⟨_, _, z0, z1, z2, z3, z4, z5, z6⟩ := T5.out
    go_wp2
    go_ret
    exact ⟨rfl, HB7.out⟩
end Go.Proofs.Ytfimjmikmbkkgaa.Semver
