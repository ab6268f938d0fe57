/-
  The law SemverTexts answers true for any two versions, and writes nothing that was there. Conditions: the rows read as lists of texts; the lengths are those that the form allows; the numbers fit; the library's table of powers of ten reads as it is written.
-/
import Derived.Test.YtfimjmikmbkkgaaDoorSvRefText
import Derived.Test.YtfimjmikmbkkgaaDoorSvRefSmall
import Derived.Test.YtfimjmikmbkkgaaDoorSvFore
import Derived.Test.YtfimjmikmbkkgaaDoorSvBackWalk
namespace Go.Proofs.YtfimjmikmbkkgaaDoor.Semver
open Go.RowKit Num Ident

set_option maxRecDepth 100000 in
set_option maxHeartbeats 6400000 in
theorem semverTexts_any (v u : Ver) (A1 A2 B1 B2 : Option Addr) (c1 c2 d1 d2 : Nat) (w : World) (ha : v.a < 18446744073709551616) (hb : v.b < 18446744073709551616) (hc : v.c < 18446744073709551616)
    (r1 : SRow w A1 v.pre.length v.pre) (r2 : SRow w A2 v.build.length v.build) (q1 : SRow w B1 u.pre.length u.pre) (q2 : SRow w B2 u.build.length u.build) (h1 : v.pre.length ≤ c1) (h2 : v.build.length ≤ c2)
    (n1 : v.pre.length ≤ maxLen) (n2 : v.build.length ≤ maxLen) (n3 : u.pre.length ≤ maxLen) (n4 : u.build.length ≤ maxLen) (htab : Tab w) :
    Calls Tryd.prog 3 #[.agg #[.int .u64 (v.a : Int), .int .u64 (v.b : Int), .int .u64 (v.c : Int), .slice A1 v.pre.length c1, .slice A2 v.build.length c2], .agg #[.int .u64 (u.a : Int), .int .u64 (u.b : Int), .int .u64 (u.c : Int), .slice B1 u.pre.length d1, .slice B2 u.build.length d2]] w fun e w' => e = .returned (.bool true) ∧ Below w.heap.size w w' := by
  have N1 := Lib.hid n1
  have N2 := Lib.hid n2
  have N3 := Lib.hid n3
  have N4 := Lib.hid n4
  have HT := Lib.hid htab
  have BY0 : Hid (Below w.heap.size w ((w.alloc (.cells #[.int .u64 (v.a : Int), .int .u64 (v.b : Int), .int .u64 (v.c : Int), .slice A1 v.pre.length c1, .slice A2 v.build.length c2] 25)).alloc (.cells #[.int .u64 (u.a : Int), .int .u64 (u.b : Int), .int .u64 (u.c : Int), .slice B1 u.pre.length d1, .slice B2 u.build.length d2] 25))) := ((Below.refl _ _).alloc (Nat.le_refl _) _).alloc (by simp) _
  have KV0 : Hid (At5 ((w.alloc (.cells #[.int .u64 (v.a : Int), .int .u64 (v.b : Int), .int .u64 (v.c : Int), .slice A1 v.pre.length c1, .slice A2 v.build.length c2] 25)).alloc (.cells #[.int .u64 (u.a : Int), .int .u64 (u.b : Int), .int .u64 (u.c : Int), .slice B1 u.pre.length d1, .slice B2 u.build.length d2] 25)) w.heap.size (.int .u64 (v.a : Int)) (.int .u64 (v.b : Int)) (.int .u64 (v.c : Int)) (.slice A1 v.pre.length c1) (.slice A2 v.build.length c2)) := (At5.new w 25 _ _ _ _ _).kept ((Below.refl _ _).alloc (Nat.le_refl _) _) (by simp)
  have KU0 : Hid (At5 ((w.alloc (.cells #[.int .u64 (v.a : Int), .int .u64 (v.b : Int), .int .u64 (v.c : Int), .slice A1 v.pre.length c1, .slice A2 v.build.length c2] 25)).alloc (.cells #[.int .u64 (u.a : Int), .int .u64 (u.b : Int), .int .u64 (u.c : Int), .slice B1 u.pre.length d1, .slice B2 u.build.length d2] 25)) (w.heap.size + 1) (.int .u64 (u.a : Int)) (.int .u64 (u.b : Int)) (.int .u64 (u.c : Int)) (.slice B1 u.pre.length d1) (.slice B2 u.build.length d2)) := by
    have := At5.new (w.alloc (.cells #[.int .u64 (v.a : Int), .int .u64 (v.b : Int), .int .u64 (v.c : Int), .slice A1 v.pre.length c1, .slice A2 v.build.length c2] 25)) 25 (.int .u64 (u.a : Int)) (.int .u64 (u.b : Int)) (.int .u64 (u.c : Int)) (.slice B1 u.pre.length d1) (.slice B2 u.build.length d2)
    rw [size_alloc] at this; exact this
  have R1y0 := Lib.hid (r1.kept BY0.out)
  have R2y0 := Lib.hid (r2.kept BY0.out)
  have Q1y0 := Lib.hid (q1.kept BY0.out)
  have Q2y0 := Lib.hid (q2.kept BY0.out)
  clear r1 r2 q1 q2 n1 n2 n3 n4 htab
  cases sv : (shortB v.pre && shortB v.build)
  · have SV := Lib.hid sv; clear sv
    go_enter Tryd.func3, Tryd.ntmps3
    go_upto_region 1 with (fail)
    generalize ((w.alloc (.cells #[.int .u64 (v.a : Int), .int .u64 (v.b : Int), .int .u64 (v.c : Int), .slice A1 v.pre.length c1, .slice A2 v.build.length c2] 25)).alloc (.cells #[.int .u64 (u.a : Int), .int .u64 (u.b : Int), .int .u64 (u.c : Int), .slice B1 u.pre.length d1, .slice B2 u.build.length d2] 25)) = W0 at KV0 KU0 BY0 R1y0 R2y0 Q1y0 Q2y0 ⊢
    go_wp2_with fail
    refine (awake_any _).mono ?_
    rintro e w1 ⟨rfl, hb1⟩
    have KV1 := Lib.hid (KV0.out.kept hb1 KV0.out.1)
    have KU1 := Lib.hid (KU0.out.kept hb1 KU0.out.1)
    have R1y1 := Lib.hid (R1y0.out.kept hb1)
    have R2y1 := Lib.hid (R2y0.out.kept hb1)
    have Q1y1 := Lib.hid (Q1y0.out.kept hb1)
    have Q2y1 := Lib.hid (Q2y0.out.kept hb1)
    have BY1 := Lib.hid (BY0.out.trans (hb1.mono BY0.out.size))
    clear hb1
    obtain ⟨_, _, x0, x1, x2, x3, x4⟩ := KV1.out
    go_wp2_with fail
    refine (vshort_any v _ _ _ _ _ R1y1.out R2y1.out N1.out N2.out).mono ?_
    rintro e w2 ⟨rfl, hb2⟩
    have KV2 := Lib.hid (KV1.out.kept hb2 KV1.out.1)
    have KU2 := Lib.hid (KU1.out.kept hb2 KU1.out.1)
    have R1y2 := Lib.hid (R1y1.out.kept hb2)
    have R2y2 := Lib.hid (R2y1.out.kept hb2)
    have Q1y2 := Lib.hid (Q1y1.out.kept hb2)
    have Q2y2 := Lib.hid (Q2y1.out.kept hb2)
    have BY2 := Lib.hid (BY1.out.trans (hb2.mono BY1.out.size))
    clear hb2
    clear x0 x1 x2 x3 x4
    rw [SV.out]
    go_wp2
    go_ret
    exact ⟨rfl, BY2.out⟩
  have SV := Lib.hid sv
  rw [Bool.and_eq_true] at sv
  have S1 := Lib.hid sv.1
  have S2 := Lib.hid sv.2
  clear sv
  cases su : (shortB u.pre && shortB u.build)
  · have SU := Lib.hid su; clear su
    go_enter Tryd.func3, Tryd.ntmps3
    go_upto_region 1 with (fail)
    generalize ((w.alloc (.cells #[.int .u64 (v.a : Int), .int .u64 (v.b : Int), .int .u64 (v.c : Int), .slice A1 v.pre.length c1, .slice A2 v.build.length c2] 25)).alloc (.cells #[.int .u64 (u.a : Int), .int .u64 (u.b : Int), .int .u64 (u.c : Int), .slice B1 u.pre.length d1, .slice B2 u.build.length d2] 25)) = W0 at KV0 KU0 BY0 R1y0 R2y0 Q1y0 Q2y0 ⊢
    go_wp2_with fail
    refine (awake_any _).mono ?_
    rintro e w1 ⟨rfl, hb1⟩
    have KV1 := Lib.hid (KV0.out.kept hb1 KV0.out.1)
    have KU1 := Lib.hid (KU0.out.kept hb1 KU0.out.1)
    have R1y1 := Lib.hid (R1y0.out.kept hb1)
    have R2y1 := Lib.hid (R2y0.out.kept hb1)
    have Q1y1 := Lib.hid (Q1y0.out.kept hb1)
    have Q2y1 := Lib.hid (Q2y0.out.kept hb1)
    have BY1 := Lib.hid (BY0.out.trans (hb1.mono BY0.out.size))
    clear hb1
    obtain ⟨_, _, x0, x1, x2, x3, x4⟩ := KV1.out
    go_wp2_with fail
    refine (vshort_any v _ _ _ _ _ R1y1.out R2y1.out N1.out N2.out).mono ?_
    rintro e w2 ⟨rfl, hb2⟩
    have KV2 := Lib.hid (KV1.out.kept hb2 KV1.out.1)
    have KU2 := Lib.hid (KU1.out.kept hb2 KU1.out.1)
    have R1y2 := Lib.hid (R1y1.out.kept hb2)
    have R2y2 := Lib.hid (R2y1.out.kept hb2)
    have Q1y2 := Lib.hid (Q1y1.out.kept hb2)
    have Q2y2 := Lib.hid (Q2y1.out.kept hb2)
    have BY2 := Lib.hid (BY1.out.trans (hb2.mono BY1.out.size))
    clear hb2
    clear x0 x1 x2 x3 x4
    rw [SV.out]
    obtain ⟨_, _, x0, x1, x2, x3, x4⟩ := KU2.out
    go_wp2_with fail
    refine (vshort_any u _ _ _ _ _ Q1y2.out Q2y2.out N3.out N4.out).mono ?_
    rintro e w3 ⟨rfl, hb3⟩
    have KV3 := Lib.hid (KV2.out.kept hb3 KV2.out.1)
    have KU3 := Lib.hid (KU2.out.kept hb3 KU2.out.1)
    have R1y3 := Lib.hid (R1y2.out.kept hb3)
    have R2y3 := Lib.hid (R2y2.out.kept hb3)
    have Q1y3 := Lib.hid (Q1y2.out.kept hb3)
    have Q2y3 := Lib.hid (Q2y2.out.kept hb3)
    have BY3 := Lib.hid (BY2.out.trans (hb3.mono BY2.out.size))
    clear hb3
    clear x0 x1 x2 x3 x4
    rw [SU.out]
    go_wp2
    go_ret
    exact ⟨rfl, BY3.out⟩
  have SU := Lib.hid su; clear su
  have HVT := Lib.hid (fun W r1 r2 ht => vtext_any v A1 c1 A2 c2 W ha hb hc r1 r2 h1 h2 S1.out S2.out ht)
  have HVG := Lib.hid (fun W r1 r2 => vgood_any v A1 c1 A2 c2 W r1 r2 N1.out N2.out (short_len S1.out).2 (short_len S2.out).2)
  have HRT := Lib.hid (fun W r1 r2 => refText_any v A1 c1 A2 c2 W ha hb hc r1 r2 S1.out S2.out)
  have HRG := Lib.hid (fun W r1 r2 => refGood_any v A1 c1 A2 c2 W r1 r2 S1.out S2.out)
  have HSM := Lib.hid (fun W r1 r2 q1 q2 => same_parts A1 v.pre.length c1 v.pre A2 v.build.length c2 v.build B1 u.pre.length d1 u.pre B2 u.build.length d2 u.build v.a v.b v.c u.a u.b u.c W r1 r2 q1 q2 N1.out N2.out N3.out N4.out)
  have HRS := Lib.hid (fun W r1 r2 q1 q2 => refSame_any v u A1 A2 B1 B2 c1 c2 d1 d2 W r1 r2 q1 q2 N1.out N2.out N3.out N4.out)
  have HSV := Lib.hid (fun W r1 r2 => same_parts A1 v.pre.length c1 v.pre A2 v.build.length c2 v.build A1 v.pre.length c1 v.pre A2 v.build.length c2 v.build v.a v.b v.c v.a v.b v.c W r1 r2 r1 r2 N1.out N2.out N1.out N2.out)
  rw [show sameV ⟨v.a, v.b, v.c, v.pre, v.build⟩ ⟨v.a, v.b, v.c, v.pre, v.build⟩ = true from sameV_self v] at HSV
  rw [show sameV ⟨v.a, v.b, v.c, v.pre, v.build⟩ ⟨u.a, u.b, u.c, u.pre, u.build⟩ = sameV v u from rfl] at HSM
  generalize sameV v u = sm at HSM HRS
  have HTL : (vtext v).length ≤ 40000 := by
    have l0 := dec_le v.a ha
    have l1 := dec_le v.b hb
    have l2 := dec_le v.c hc
    have p1 := rowText_le (m := 45) S1.out
    have p2 := rowText_le (m := 43) S2.out
    unfold vtext
    simp only [List.length_append, List.length_singleton]
    omega
  have HRD : Hid (goodV v = true → ∀ W, Calls Tryd.prog 13 #[.string (mk (vtext v))] W (VerPost W (0, 0, v))) := fun hg W => by
    have := read_any (mk (vtext v)) W (by rw [mk_size]; unfold maxLen; omega)
    rw [mk_list, text_read hg] at this; exact this
  clear ha hb hc HTL
  generalize goodV v = gd at HVG HRG HRD
  have hq1 : ((mk (vtext v)).toList == (mk (vtext v)).toList) = true := by simp
  have hq2 : ((mk (vtext v)).toList != (mk (vtext v)).toList) = false := by simp
  generalize mk (vtext v) = sx at HVT HRT HRD hq1 hq2
  have hm1 : (sm == sm) = true := by simp
  have hm2 : (sm != sm) = false := by simp
  have hg1 : (gd == gd) = true := by simp
  have hg2 : (gd != gd) = false := by simp
  go_enter Tryd.func3, Tryd.ntmps3
  go_upto_region 1 with (fail)
  generalize ((w.alloc (.cells #[.int .u64 (v.a : Int), .int .u64 (v.b : Int), .int .u64 (v.c : Int), .slice A1 v.pre.length c1, .slice A2 v.build.length c2] 25)).alloc (.cells #[.int .u64 (u.a : Int), .int .u64 (u.b : Int), .int .u64 (u.c : Int), .slice B1 u.pre.length d1, .slice B2 u.build.length d2] 25)) = W0 at KV0 KU0 BY0 R1y0 R2y0 Q1y0 Q2y0 ⊢
  go_wp2_with fail
  refine (awake_any _).mono ?_
  rintro e w1 ⟨rfl, hb1⟩
  have KV1 := Lib.hid (KV0.out.kept hb1 KV0.out.1)
  have KU1 := Lib.hid (KU0.out.kept hb1 KU0.out.1)
  have R1y1 := Lib.hid (R1y0.out.kept hb1)
  have R2y1 := Lib.hid (R2y0.out.kept hb1)
  have Q1y1 := Lib.hid (Q1y0.out.kept hb1)
  have Q2y1 := Lib.hid (Q2y0.out.kept hb1)
  have BY1 := Lib.hid (BY0.out.trans (hb1.mono BY0.out.size))
  clear hb1
  obtain ⟨_, _, x0, x1, x2, x3, x4⟩ := KV1.out
  go_wp2_with fail
  refine (vshort_any v _ _ _ _ _ R1y1.out R2y1.out N1.out N2.out).mono ?_
  rintro e w2 ⟨rfl, hb2⟩
  have KV2 := Lib.hid (KV1.out.kept hb2 KV1.out.1)
  have KU2 := Lib.hid (KU1.out.kept hb2 KU1.out.1)
  have R1y2 := Lib.hid (R1y1.out.kept hb2)
  have R2y2 := Lib.hid (R2y1.out.kept hb2)
  have Q1y2 := Lib.hid (Q1y1.out.kept hb2)
  have Q2y2 := Lib.hid (Q2y1.out.kept hb2)
  have BY2 := Lib.hid (BY1.out.trans (hb2.mono BY1.out.size))
  clear hb2
  clear x0 x1 x2 x3 x4
  rw [SV.out]
  obtain ⟨_, _, x0, x1, x2, x3, x4⟩ := KU2.out
  go_wp2_with fail
  refine (vshort_any u _ _ _ _ _ Q1y2.out Q2y2.out N3.out N4.out).mono ?_
  rintro e w3 ⟨rfl, hb3⟩
  have KV3 := Lib.hid (KV2.out.kept hb3 KV2.out.1)
  have KU3 := Lib.hid (KU2.out.kept hb3 KU2.out.1)
  have R1y3 := Lib.hid (R1y2.out.kept hb3)
  have R2y3 := Lib.hid (R2y2.out.kept hb3)
  have Q1y3 := Lib.hid (Q1y2.out.kept hb3)
  have Q2y3 := Lib.hid (Q2y2.out.kept hb3)
  have BY3 := Lib.hid (BY2.out.trans (hb3.mono BY2.out.size))
  clear hb3
  clear x0 x1 x2 x3 x4
  rw [SU.out]
  obtain ⟨_, _, x0, x1, x2, x3, x4⟩ := KV3.out
  go_wp2_with fail
  refine (HVT.out _ R1y3.out R2y3.out (HT.out.kept BY3.out)).mono ?_
  rintro e w4 ⟨rfl, hb4⟩
  have KV4 := Lib.hid (KV3.out.kept hb4 KV3.out.1)
  have KU4 := Lib.hid (KU3.out.kept hb4 KU3.out.1)
  have R1y4 := Lib.hid (R1y3.out.kept hb4)
  have R2y4 := Lib.hid (R2y3.out.kept hb4)
  have Q1y4 := Lib.hid (Q1y3.out.kept hb4)
  have Q2y4 := Lib.hid (Q2y3.out.kept hb4)
  have BY4 := Lib.hid (BY3.out.trans (hb4.mono BY3.out.size))
  clear hb4
  clear x0 x1 x2 x3 x4
  obtain ⟨_, _, x0, x1, x2, x3, x4⟩ := KV4.out
  go_wp2_with fail
  refine (HVG.out _ R1y4.out R2y4.out).mono ?_
  rintro e w5 ⟨rfl, hb5⟩
  have KV5 := Lib.hid (KV4.out.kept hb5 KV4.out.1)
  have KU5 := Lib.hid (KU4.out.kept hb5 KU4.out.1)
  have R1y5 := Lib.hid (R1y4.out.kept hb5)
  have R2y5 := Lib.hid (R2y4.out.kept hb5)
  have Q1y5 := Lib.hid (Q1y4.out.kept hb5)
  have Q2y5 := Lib.hid (Q2y4.out.kept hb5)
  have BY5 := Lib.hid (BY4.out.trans (hb5.mono BY4.out.size))
  clear hb5
  clear x0 x1 x2 x3 x4
  go_upto_region 7 with (fail)
  clear KV0 KU0 BY0 KV1 KU1 BY1 KV2 KU2 BY2 KV3 KU3 BY3 KV4 KU4 BY4 R1y0 R2y0 Q1y0 Q2y0 R1y1 R2y1 Q1y1 Q2y1 R1y2 R2y2 Q1y2 Q2y2 R1y3 R2y3 Q1y3 Q2y3 R1y4 R2y4 Q1y4 Q2y4
  go_cut [48] (fun x wx => x = .bool false ∧ At5 wx w.heap.size (.int .u64 (v.a : Int)) (.int .u64 (v.b : Int)) (.int .u64 (v.c : Int)) (.slice A1 v.pre.length c1) (.slice A2 v.build.length c2) ∧ SRow wx A1 v.pre.length v.pre ∧ SRow wx A2 v.build.length v.build ∧ Below w.heap.size w wx)
  case first =>
    have KV0 := KV5
    have KU0 := KU5
    have HDR := Lib.hid ((Below.refl w5.heap.size w5).drew)
    have KV1 := Lib.hid (KV5.out.kept HDR.out KV5.out.1)
    have KU1 := Lib.hid (KU5.out.kept HDR.out KU5.out.1)
    have R1x1 := Lib.hid (R1y5.out.kept HDR.out)
    have R2x1 := Lib.hid (R2y5.out.kept HDR.out)
    have Q1x1 := Lib.hid (Q1y5.out.kept HDR.out)
    have Q2x1 := Lib.hid (Q2y5.out.kept HDR.out)
    have BB1 := Lib.hid (BY5.out.drew)
    refine wp_region_held_drew (S := fun w' => (w'.cell? ⟨w.heap.size, 0, none⟩ = some (.int .u64 (v.a : Int)) ∧ w'.cell? ⟨w.heap.size, 1, none⟩ = some (.int .u64 (v.b : Int)) ∧ w'.cell? ⟨w.heap.size, 2, none⟩ = some (.int .u64 (v.c : Int)) ∧ w'.cell? ⟨w.heap.size, 3, none⟩ = some (.slice A1 v.pre.length c1) ∧ w'.cell? ⟨w.heap.size, 4, none⟩ = some (.slice A2 v.build.length c2)) ∧ (w'.cell? ⟨(w.heap.size + 1), 0, none⟩ = some (.int .u64 (u.a : Int)) ∧ w'.cell? ⟨(w.heap.size + 1), 1, none⟩ = some (.int .u64 (u.b : Int)) ∧ w'.cell? ⟨(w.heap.size + 1), 2, none⟩ = some (.int .u64 (u.c : Int)) ∧ w'.cell? ⟨(w.heap.size + 1), 3, none⟩ = some (.slice B1 u.pre.length d1) ∧ w'.cell? ⟨(w.heap.size + 1), 4, none⟩ = some (.slice B2 u.build.length d2))) (by kernel_rfl) ⟨KV0.out.2.2, KU0.out.2.2⟩ (fun hHeld => ?_)
    refine wpAnyH_take (i := 0) (oi := { dst := some 24, op := Op.move (Operand.tmp 5), type := 9, pos := "law.go:62", after := #[], guard := none }) (v := .string sx) rfl (by kernel_rfl) (by kernel_rfl) (by kernel_rfl) (fun _ _ _ h => h) (Or.inl ⟨by rfl, fun w' hS' => by go_simp⟩) (by assumption) ?_
    simp only [Act.put, List.setIfInBounds_toArray, List.set_cons_zero, List.set_cons_succ]
    refine wpAnyH_take (i := 1) (oi := { dst := some 25, op := Op.load 25 (Operand.tmp 2), type := 25, pos := "law.go:62", after := #[], guard := none }) (v := .agg #[.int .u64 (v.a : Int), .int .u64 (v.b : Int), .int .u64 (v.c : Int), .slice A1 v.pre.length c1, .slice A2 v.build.length c2]) rfl (by kernel_rfl) (by kernel_rfl) (by kernel_rfl) (fun _ _ _ h => h) (Or.inl ⟨by rfl, fun w' hS' => by go_simp⟩) (by assumption) ?_
    simp only [Act.put, List.setIfInBounds_toArray, List.set_cons_zero, List.set_cons_succ]
    refine wpAnyH_ready (rs := [2]) (by kernel_rfl) (by simp) ?_
    refine AllReadyH.cons (o := { dst := some 26, op := Op.call { callee := Callee.value (Operand.func 9), args := #[Operand.tmp 25], argTypes := #[25] }, type := 9, pos := "law.go:62", after := #[{ on := 1, ground := Ground.data }], guard := none }) rfl (fun K hK => ?_) AllReadyH.nil
    go_simp
    refine (HRT.out _ R1x1.out R2x1.out).mono ?_
    rintro e w2 ⟨rfl, hb2⟩
    have KV2 := Lib.hid (KV1.out.kept hb2 KV1.out.1)
    have KU2 := Lib.hid (KU1.out.kept hb2 KU1.out.1)
    have R1x2 := Lib.hid (R1x1.out.kept hb2)
    have R2x2 := Lib.hid (R2x1.out.kept hb2)
    have Q1x2 := Lib.hid (Q1x1.out.kept hb2)
    have Q2x2 := Lib.hid (Q2x1.out.kept hb2)
    have BB2 := Lib.hid (BB1.out.trans (hb2.mono BB1.out.size))
    clear hb2
    refine hK.out _ _ ⟨KV2.out.2.2, KU2.out.2.2⟩ (fun hHeld => ?_)
    clear hK K
    try simp only [Act.put, List.setIfInBounds_toArray, List.set_cons_zero, List.set_cons_succ]
    refine wpAnyH_take (i := 3) (oi := { dst := some 27, op := Op.binOp BinOp.neq 9 (Operand.tmp 24) (Operand.tmp 26) 9, type := 4, pos := "law.go:62", after := #[{ on := 0, ground := Ground.data }, { on := 2, ground := Ground.data }], guard := none }) (v := .bool false) rfl (by kernel_rfl) (by kernel_rfl) (by kernel_rfl) (fun _ _ _ h => h) (Or.inl ⟨by rfl, fun w' hS' => by go_simp⟩) (by assumption) ?_
    simp only [Act.put, List.setIfInBounds_toArray, List.set_cons_zero, List.set_cons_succ]
    refine wpAnyH_take (i := 4) (oi := { dst := some 28, op := Op.move (Operand.tmp 27), type := 4, pos := "law.go:62", after := #[{ on := 3, ground := Ground.data }, { on := 2, ground := Ground.chain }], guard := none }) (v := .bool false) rfl (by kernel_rfl) (by kernel_rfl) (by kernel_rfl) (fun _ _ _ h => h) (Or.inl ⟨by rfl, fun w' hS' => by go_simp⟩) (by assumption) ?_
    simp only [Act.put, List.setIfInBounds_toArray, List.set_cons_zero, List.set_cons_succ]
    refine wpAnyH_take (i := 5) (oi := { dst := some 29, op := Op.move (Operand.tmp 6), type := 4, pos := "law.go:62", after := #[{ on := 4, ground := Ground.guard }], guard := some (4, false) }) (v := .bool gd) rfl (by kernel_rfl) (by kernel_rfl) (by kernel_rfl) (fun _ _ _ h => h) (Or.inl ⟨by rfl, fun w' hS' => by go_simp⟩) (by assumption) ?_
    simp only [Act.put, List.setIfInBounds_toArray, List.set_cons_zero, List.set_cons_succ]
    refine wpAnyH_take (i := 6) (oi := { dst := some 30, op := Op.load 25 (Operand.tmp 2), type := 25, pos := "law.go:62", after := #[{ on := 4, ground := Ground.guard }], guard := some (4, false) }) (v := .agg #[.int .u64 (v.a : Int), .int .u64 (v.b : Int), .int .u64 (v.c : Int), .slice A1 v.pre.length c1, .slice A2 v.build.length c2]) rfl (by kernel_rfl) (by kernel_rfl) (by kernel_rfl) (fun _ _ _ h => h) (Or.inl ⟨by rfl, fun w' hS' => by go_simp⟩) (by assumption) ?_
    simp only [Act.put, List.setIfInBounds_toArray, List.set_cons_zero, List.set_cons_succ]
    refine wpAnyH_ready (rs := [7]) (by kernel_rfl) (by simp) ?_
    refine AllReadyH.cons (o := { dst := some 31, op := Op.call { callee := Callee.value (Operand.func 10), args := #[Operand.tmp 30], argTypes := #[25] }, type := 4, pos := "law.go:62", after := #[{ on := 6, ground := Ground.data }, { on := 4, ground := Ground.chain }, { on := 4, ground := Ground.guard }], guard := some (4, false) }) rfl (fun K hK => ?_) AllReadyH.nil
    go_simp
    refine (HRG.out _ R1x2.out R2x2.out).mono ?_
    rintro e w3 ⟨rfl, hb3⟩
    have KV3 := Lib.hid (KV2.out.kept hb3 KV2.out.1)
    have KU3 := Lib.hid (KU2.out.kept hb3 KU2.out.1)
    have R1x3 := Lib.hid (R1x2.out.kept hb3)
    have R2x3 := Lib.hid (R2x2.out.kept hb3)
    have Q1x3 := Lib.hid (Q1x2.out.kept hb3)
    have Q2x3 := Lib.hid (Q2x2.out.kept hb3)
    have BB3 := Lib.hid (BB2.out.trans (hb3.mono BB2.out.size))
    clear hb3
    refine hK.out _ _ ⟨KV3.out.2.2, KU3.out.2.2⟩ (fun hHeld => ?_)
    clear hK K
    try simp only [Act.put, List.setIfInBounds_toArray, List.set_cons_zero, List.set_cons_succ]
    refine wpAnyH_take (i := 8) (oi := { dst := some 32, op := Op.binOp BinOp.neq 4 (Operand.tmp 29) (Operand.tmp 31) 4, type := 4, pos := "law.go:62", after := #[{ on := 5, ground := Ground.data }, { on := 7, ground := Ground.data }, { on := 4, ground := Ground.guard }], guard := some (4, false) }) (v := .bool false) rfl (by kernel_rfl) (by kernel_rfl) (by kernel_rfl) (fun _ _ _ h => h) (Or.inl ⟨by rfl, fun w' hS' => by go_simp⟩) (by assumption) ?_
    simp only [Act.put, List.setIfInBounds_toArray, List.set_cons_zero, List.set_cons_succ]
    refine wpAnyH_take (i := 9) (oi := { dst := some 33, op := Op.pick (Operand.tmp 28) (Operand.const (Value.bool true)) (Operand.tmp 32), type := 4, pos := "law.go:62", after := #[{ on := 4, ground := Ground.data }, { on := 8, ground := Ground.data }], guard := none }) (v := .bool false) rfl (by kernel_rfl) (by kernel_rfl) (by kernel_rfl) (fun _ _ _ h => h) (Or.inl ⟨by rfl, fun w' hS' => by go_simp⟩) (by assumption) ?_
    simp only [Act.put, List.setIfInBounds_toArray, List.set_cons_zero, List.set_cons_succ]
    refine wpAnyH_take (i := 10) (oi := { dst := some 34, op := Op.move (Operand.tmp 33), type := 4, pos := "law.go:62", after := #[{ on := 9, ground := Ground.data }, { on := 7, ground := Ground.chain }], guard := none }) (v := .bool false) rfl (by kernel_rfl) (by kernel_rfl) (by kernel_rfl) (fun _ _ _ h => h) (Or.inl ⟨by rfl, fun w' hS' => by go_simp⟩) (by assumption) ?_
    simp only [Act.put, List.setIfInBounds_toArray, List.set_cons_zero, List.set_cons_succ]
    refine wpAnyH_take (i := 11) (oi := { dst := some 35, op := Op.load 25 (Operand.tmp 2), type := 25, pos := "law.go:62", after := #[{ on := 10, ground := Ground.guard }], guard := some (10, false) }) (v := .agg #[.int .u64 (v.a : Int), .int .u64 (v.b : Int), .int .u64 (v.c : Int), .slice A1 v.pre.length c1, .slice A2 v.build.length c2]) rfl (by kernel_rfl) (by kernel_rfl) (by kernel_rfl) (fun _ _ _ h => h) (Or.inl ⟨by rfl, fun w' hS' => by go_simp⟩) (by assumption) ?_
    simp only [Act.put, List.setIfInBounds_toArray, List.set_cons_zero, List.set_cons_succ]
    refine wpAnyH_take (i := 12) (oi := { dst := some 36, op := Op.load 25 (Operand.tmp 3), type := 25, pos := "law.go:62", after := #[{ on := 10, ground := Ground.guard }], guard := some (10, false) }) (v := .agg #[.int .u64 (u.a : Int), .int .u64 (u.b : Int), .int .u64 (u.c : Int), .slice B1 u.pre.length d1, .slice B2 u.build.length d2]) rfl (by kernel_rfl) (by kernel_rfl) (by kernel_rfl) (fun _ _ _ h => h) (Or.inl ⟨by rfl, fun w' hS' => by go_simp⟩) (by assumption) ?_
    simp only [Act.put, List.setIfInBounds_toArray, List.set_cons_zero, List.set_cons_succ]
    refine wpAnyH_take (i := 14) (oi := { dst := some 38, op := Op.load 25 (Operand.tmp 2), type := 25, pos := "law.go:62", after := #[{ on := 10, ground := Ground.guard }], guard := some (10, false) }) (v := .agg #[.int .u64 (v.a : Int), .int .u64 (v.b : Int), .int .u64 (v.c : Int), .slice A1 v.pre.length c1, .slice A2 v.build.length c2]) rfl (by kernel_rfl) (by kernel_rfl) (by kernel_rfl) (fun _ _ _ h => h) (Or.inl ⟨by rfl, fun w' hS' => by go_simp⟩) (by assumption) ?_
    simp only [Act.put, List.setIfInBounds_toArray, List.set_cons_zero, List.set_cons_succ]
    refine wpAnyH_take (i := 15) (oi := { dst := some 39, op := Op.load 25 (Operand.tmp 3), type := 25, pos := "law.go:62", after := #[{ on := 10, ground := Ground.guard }], guard := some (10, false) }) (v := .agg #[.int .u64 (u.a : Int), .int .u64 (u.b : Int), .int .u64 (u.c : Int), .slice B1 u.pre.length d1, .slice B2 u.build.length d2]) rfl (by kernel_rfl) (by kernel_rfl) (by kernel_rfl) (fun _ _ _ h => h) (Or.inl ⟨by rfl, fun w' hS' => by go_simp⟩) (by assumption) ?_
    simp only [Act.put, List.setIfInBounds_toArray, List.set_cons_zero, List.set_cons_succ]
    refine wpAnyH_ready (rs := [13]) (by kernel_rfl) (by simp) ?_
    refine AllReadyH.cons (o := { dst := some 37, op := Op.call { callee := Callee.value (Operand.func 11), args := #[Operand.tmp 35, Operand.tmp 36], argTypes := #[25, 25] }, type := 4, pos := "law.go:62", after := #[{ on := 11, ground := Ground.data }, { on := 12, ground := Ground.data }, { on := 10, ground := Ground.chain }, { on := 10, ground := Ground.guard }], guard := some (10, false) }) rfl (fun K hK => ?_) AllReadyH.nil
    go_simp
    refine (HSM.out _ R1x3.out R2x3.out Q1x3.out Q2x3.out).mono ?_
    rintro e w4 ⟨rfl, hb4⟩
    have KV4 := Lib.hid (KV3.out.kept hb4 KV3.out.1)
    have KU4 := Lib.hid (KU3.out.kept hb4 KU3.out.1)
    have R1x4 := Lib.hid (R1x3.out.kept hb4)
    have R2x4 := Lib.hid (R2x3.out.kept hb4)
    have Q1x4 := Lib.hid (Q1x3.out.kept hb4)
    have Q2x4 := Lib.hid (Q2x3.out.kept hb4)
    have BB4 := Lib.hid (BB3.out.trans (hb4.mono BB3.out.size))
    clear hb4
    refine hK.out _ _ ⟨KV4.out.2.2, KU4.out.2.2⟩ (fun hHeld => ?_)
    clear hK K
    try simp only [Act.put, List.setIfInBounds_toArray, List.set_cons_zero, List.set_cons_succ]
    refine wpAnyH_ready (rs := [16]) (by kernel_rfl) (by simp) ?_
    refine AllReadyH.cons (o := { dst := some 40, op := Op.call { callee := Callee.value (Operand.func 12), args := #[Operand.tmp 38, Operand.tmp 39], argTypes := #[25, 25] }, type := 4, pos := "law.go:62", after := #[{ on := 14, ground := Ground.data }, { on := 15, ground := Ground.data }, { on := 13, ground := Ground.chain }, { on := 10, ground := Ground.guard }], guard := some (10, false) }) rfl (fun K hK => ?_) AllReadyH.nil
    go_simp
    refine (HRS.out _ R1x4.out R2x4.out Q1x4.out Q2x4.out).mono ?_
    rintro e w5 ⟨rfl, hb5⟩
    have KV5 := Lib.hid (KV4.out.kept hb5 KV4.out.1)
    have KU5 := Lib.hid (KU4.out.kept hb5 KU4.out.1)
    have R1x5 := Lib.hid (R1x4.out.kept hb5)
    have R2x5 := Lib.hid (R2x4.out.kept hb5)
    have Q1x5 := Lib.hid (Q1x4.out.kept hb5)
    have Q2x5 := Lib.hid (Q2x4.out.kept hb5)
    have BB5 := Lib.hid (BB4.out.trans (hb5.mono BB4.out.size))
    clear hb5
    refine hK.out _ _ ⟨KV5.out.2.2, KU5.out.2.2⟩ (fun hHeld => ?_)
    clear hK K
    try simp only [Act.put, List.setIfInBounds_toArray, List.set_cons_zero, List.set_cons_succ]
    refine wpAnyH_take (i := 17) (oi := { dst := some 41, op := Op.binOp BinOp.neq 4 (Operand.tmp 37) (Operand.tmp 40) 4, type := 4, pos := "law.go:62", after := #[{ on := 13, ground := Ground.data }, { on := 16, ground := Ground.data }, { on := 10, ground := Ground.guard }], guard := some (10, false) }) (v := .bool false) rfl (by kernel_rfl) (by kernel_rfl) (by kernel_rfl) (fun _ _ _ h => h) (Or.inl ⟨by rfl, fun w' hS' => by go_simp⟩) (by assumption) ?_
    simp only [Act.put, List.setIfInBounds_toArray, List.set_cons_zero, List.set_cons_succ]
    refine wpAnyH_take (i := 18) (oi := { dst := some 42, op := Op.pick (Operand.tmp 34) (Operand.const (Value.bool true)) (Operand.tmp 41), type := 4, pos := "law.go:62", after := #[{ on := 10, ground := Ground.data }, { on := 17, ground := Ground.data }], guard := none }) (v := .bool false) rfl (by kernel_rfl) (by kernel_rfl) (by kernel_rfl) (fun _ _ _ h => h) (Or.inl ⟨by rfl, fun w' hS' => by go_simp⟩) (by assumption) ?_
    simp only [Act.put, List.setIfInBounds_toArray, List.set_cons_zero, List.set_cons_succ]
    refine wpAnyH_take (i := 19) (oi := { dst := some 43, op := Op.move (Operand.tmp 42), type := 4, pos := "law.go:62", after := #[{ on := 18, ground := Ground.data }, { on := 16, ground := Ground.chain }], guard := none }) (v := .bool false) rfl (by kernel_rfl) (by kernel_rfl) (by kernel_rfl) (fun _ _ _ h => h) (Or.inl ⟨by rfl, fun w' hS' => by go_simp⟩) (by assumption) ?_
    simp only [Act.put, List.setIfInBounds_toArray, List.set_cons_zero, List.set_cons_succ]
    refine wpAnyH_take (i := 20) (oi := { dst := some 44, op := Op.load 25 (Operand.tmp 2), type := 25, pos := "law.go:62", after := #[{ on := 19, ground := Ground.guard }], guard := some (19, false) }) (v := .agg #[.int .u64 (v.a : Int), .int .u64 (v.b : Int), .int .u64 (v.c : Int), .slice A1 v.pre.length c1, .slice A2 v.build.length c2]) rfl (by kernel_rfl) (by kernel_rfl) (by kernel_rfl) (fun _ _ _ h => h) (Or.inl ⟨by rfl, fun w' hS' => by go_simp⟩) (by assumption) ?_
    simp only [Act.put, List.setIfInBounds_toArray, List.set_cons_zero, List.set_cons_succ]
    refine wpAnyH_take (i := 21) (oi := { dst := some 45, op := Op.load 25 (Operand.tmp 2), type := 25, pos := "law.go:62", after := #[{ on := 19, ground := Ground.guard }], guard := some (19, false) }) (v := .agg #[.int .u64 (v.a : Int), .int .u64 (v.b : Int), .int .u64 (v.c : Int), .slice A1 v.pre.length c1, .slice A2 v.build.length c2]) rfl (by kernel_rfl) (by kernel_rfl) (by kernel_rfl) (fun _ _ _ h => h) (Or.inl ⟨by rfl, fun w' hS' => by go_simp⟩) (by assumption) ?_
    simp only [Act.put, List.setIfInBounds_toArray, List.set_cons_zero, List.set_cons_succ]
    refine wpAnyH_ready (rs := [22]) (by kernel_rfl) (by simp) ?_
    refine AllReadyH.cons (o := { dst := some 46, op := Op.call { callee := Callee.value (Operand.func 11), args := #[Operand.tmp 44, Operand.tmp 45], argTypes := #[25, 25] }, type := 4, pos := "law.go:62", after := #[{ on := 20, ground := Ground.data }, { on := 21, ground := Ground.data }, { on := 19, ground := Ground.chain }, { on := 19, ground := Ground.guard }], guard := some (19, false) }) rfl (fun K hK => ?_) AllReadyH.nil
    go_simp
    refine (HSV.out _ R1x5.out R2x5.out).mono ?_
    rintro e w6 ⟨rfl, hb6⟩
    have KV6 := Lib.hid (KV5.out.kept hb6 KV5.out.1)
    have KU6 := Lib.hid (KU5.out.kept hb6 KU5.out.1)
    have R1x6 := Lib.hid (R1x5.out.kept hb6)
    have R2x6 := Lib.hid (R2x5.out.kept hb6)
    have Q1x6 := Lib.hid (Q1x5.out.kept hb6)
    have Q2x6 := Lib.hid (Q2x5.out.kept hb6)
    have BB6 := Lib.hid (BB5.out.trans (hb6.mono BB5.out.size))
    clear hb6
    refine hK.out _ _ ⟨KV6.out.2.2, KU6.out.2.2⟩ (fun hHeld => ?_)
    clear hK K
    try simp only [Act.put, List.setIfInBounds_toArray, List.set_cons_zero, List.set_cons_succ]
    refine wpAnyH_take (i := 23) (oi := { dst := some 47, op := Op.unOp UnOp.not 4 (Operand.tmp 46), type := 4, pos := "law.go:62", after := #[{ on := 22, ground := Ground.data }, { on := 19, ground := Ground.guard }], guard := some (19, false) }) (v := .bool false) rfl (by kernel_rfl) (by kernel_rfl) (by kernel_rfl) (fun _ _ _ h => h) (Or.inl ⟨by rfl, fun w' hS' => by go_simp⟩) (by assumption) ?_
    simp only [Act.put, List.setIfInBounds_toArray, List.set_cons_zero, List.set_cons_succ]
    refine wpAnyH_take (i := 24) (oi := { dst := some 48, op := Op.pick (Operand.tmp 43) (Operand.const (Value.bool true)) (Operand.tmp 47), type := 4, pos := "law.go:62", after := #[{ on := 19, ground := Ground.data }, { on := 23, ground := Ground.data }], guard := none }) (v := .bool false) rfl (by kernel_rfl) (by kernel_rfl) (by kernel_rfl) (fun _ _ _ h => h) (Or.inl ⟨by rfl, fun w' hS' => by go_simp⟩) (by assumption) ?_
    simp only [Act.put, List.setIfInBounds_toArray, List.set_cons_zero, List.set_cons_succ]
    refine wpAnyH_done (by kernel_rfl) ?_ _
    go_wp2
    go_meet
    exact ⟨rfl, KV6.out, R1x6.out, R2x6.out, BB6.out⟩
  case rest =>
    obtain ⟨rfl, hkv, hr1, hr2, hbx⟩ := hcut
    have KX := Lib.hid hkv
    have RX1 := Lib.hid hr1
    have RX2 := Lib.hid hr2
    have BX := Lib.hid hbx
    clear hkv hr1 hr2 hbx
    cases gd
    · go_wp2
      go_ret
      exact ⟨rfl, BX.out⟩
    have HRD2 := Lib.hid (HRD.out rfl)
    clear HRD
    go_wp2_with fail
    refine (HRD2.out _).mono ?_
    rintro e w6 ⟨C1, a1, C2, a2, rfl, _, _, r1, r2, hb6⟩
    simp only at r1 r2 ⊢
    have hzx := BX.out.size
    have BZ := Lib.hid (BX.out.trans (hb6.mono hzx))
    have hz6 := BZ.out.size
    have HBa := Lib.hid ((Below.refl w6.heap.size w6).alloc (Nat.le_refl _) (.cells #[.int .u64 (v.a : Int), .int .u64 (v.b : Int), .int .u64 (v.c : Int), .slice C1 v.pre.length a1, .slice C2 v.build.length a2] 25))
    have KZ := Lib.hid (At5.new w6 25 (.int .u64 (v.a : Int)) (.int .u64 (v.b : Int)) (.int .u64 (v.c : Int)) (.slice C1 v.pre.length a1) (.slice C2 v.build.length a2))
    have KW := Lib.hid ((KX.out.kept hb6 KX.out.1).kept HBa.out (Nat.lt_of_lt_of_le KX.out.1 hb6.size))
    have T1 := Lib.hid (r1.kept HBa.out)
    have T2 := Lib.hid (r2.kept HBa.out)
    have T3 := Lib.hid ((RX1.out.kept hb6).kept HBa.out)
    have T4 := Lib.hid ((RX2.out.kept hb6).kept HBa.out)
    have BW := Lib.hid (BZ.out.trans (HBa.out.mono hz6))
    clear r1 r2 hb6
    go_upto_region 12 with (fail)
    generalize w6.alloc (.cells #[.int .u64 (v.a : Int), .int .u64 (v.b : Int), .int .u64 (v.c : Int), .slice C1 v.pre.length a1, .slice C2 v.build.length a2] 25) = W at HBa KZ KW T1 T2 T3 T4 BW ⊢
    generalize w6.heap.size = b6 at *
    obtain ⟨_, _, x0, x1, x2, x3, x4⟩ := KZ.out
    obtain ⟨_, _, y0, y1, y2, y3, y4⟩ := KW.out
    have hzW := BW.out.size
    go_wp2_with fail
    refine (refSame_any v v _ _ _ _ _ _ _ _ _ T1.out T2.out T3.out T4.out N1.out N2.out N1.out N2.out).mono ?_
    rw [sameV_self]
    rintro e w7 ⟨rfl, hb7⟩
    have BV := Lib.hid (BW.out.trans (hb7.mono hzW))
    clear hb7 x0 x1 x2 x3 x4 y0 y1 y2 y3 y4
    go_wp2
    go_ret
    exact ⟨rfl, BV.out⟩
end Go.Proofs.YtfimjmikmbkkgaaDoor.Semver
