/-
  The document's own answers on which versions are right and the same (ferruleref03.Good, Same). Conditions: the rows read as the lists pre and build; for Good they are few and short.
-/
import Derived.Deep.CutBlock
import Derived.Deep.DeepCutAuto
import Derived.Test.YtdbdeadcffpbfaaGreatDoorSvPlain
import Derived.Test.YtdbdeadcffpbfaaGreatDoorSvMem
import Derived.Test.YtdbdeadcffpbfaaGreatDoorIdRefGood
import Derived.Test.YtdbdeadcffpbfaaGreatDoorIdRefSame
namespace Go.Proofs.YtdbdeadcffpbfaaGreatDoor.Semver
open Go.RowKit Num Ident

set_option maxRecDepth 100000 in
set_option maxHeartbeats 1600000 in
theorem refGood_all (v : Ver) (A : Option Addr) (c : Nat) (B : Option Addr) (d : Nat) (w : World) (hr1 : SRow w A v.pre.length v.pre) (hr2 : SRow w B v.build.length v.build) (hn1 : v.pre.length ≤ maxLen) (hn2 : v.build.length ≤ maxLen) (hs1 : ∀ x ∈ v.pre, x.length ≤ maxLen) (hs2 : ∀ x ∈ v.build, x.length ≤ maxLen) :
    Calls Tryz.prog 26 #[.agg #[.int .u64 (v.a : Int), .int .u64 (v.b : Int), .int .u64 (v.c : Int), .slice A v.pre.length c, .slice B v.build.length d]] w fun e w' => e = .returned (.bool (goodV v)) ∧ Below w.heap.size w w' := by
  have HBa : Hid (Below w.heap.size w (w.alloc (.cells #[.int .u64 (v.a : Int), .int .u64 (v.b : Int), .int .u64 (v.c : Int), .slice A v.pre.length c, .slice B v.build.length d] 32))) := (Below.refl _ _).alloc (Nat.le_refl _) _
  have R1 := Lib.hid (hr1.kept HBa.out)
  have R2 := Lib.hid (hr2.kept HBa.out)
  have S1 := Lib.hid hs1
  have S2 := Lib.hid hs2
  have N1 := Lib.hid hn1
  have N2 := Lib.hid hn2
  have HG : Hid (goodV v = (heldB v.a v.b v.c && (goodFrom true v.pre 0 && goodFrom false v.build 0))) := rfl
  clear hr1 hr2 hs1 hs2 hn1 hn2
  by_cases h1 : (v.a : Int) < 9223372036854775808
  · by_cases h2 : (v.b : Int) < 9223372036854775808
    · by_cases h3 : (v.c : Int) < 9223372036854775808
      · have HH := Lib.hid (held_all h1 h2 h3)
        go_enter Tryz.func26, Tryz.ntmps26
        go_wp2_with fail
        refine (ref_good_all _ _ _ v.pre true _ R1.out N1.out S1.out).mono ?_
        rintro e w' ⟨rfl, rfl⟩
        generalize goodFrom true v.pre 0 = g2 at HG ⊢
        cases g2
        · go_wp2
          go_ret
          exact ⟨by rw [HG.out, HH.out]; rfl, HBa.out⟩
        go_wp2_with fail
        refine (ref_good_all _ _ _ v.build false _ R2.out N2.out S2.out).mono ?_
        rintro e w' ⟨rfl, rfl⟩
        go_wp2
        go_ret
        exact ⟨by rw [HG.out, HH.out]; simp, HBa.out⟩
      · have HH := Lib.hid (held_not3 (x := v.a) (y := v.b) h3)
        go_enter Tryz.func26, Tryz.ntmps26
        go_wp2
        go_ret
        exact ⟨by rw [HG.out, HH.out]; rfl, HBa.out⟩
    · have HH := Lib.hid (held_not2 (x := v.a) (z := v.c) h2)
      go_enter Tryz.func26, Tryz.ntmps26
      go_wp2
      go_ret
      exact ⟨by rw [HG.out, HH.out]; rfl, HBa.out⟩
  · have HH := Lib.hid (held_not1 (y := v.b) (z := v.c) h1)
    go_enter Tryz.func26, Tryz.ntmps26
    go_wp2
    go_ret
    exact ⟨by rw [HG.out, HH.out]; rfl, HBa.out⟩
theorem refGood_any (v : Ver) (A : Option Addr) (c : Nat) (B : Option Addr) (d : Nat) (w : World) (hr1 : SRow w A v.pre.length v.pre) (hr2 : SRow w B v.build.length v.build) (hs1 : shortB v.pre = true) (hs2 : shortB v.build = true) :
    Calls Tryz.prog 26 #[.agg #[.int .u64 (v.a : Int), .int .u64 (v.b : Int), .int .u64 (v.c : Int), .slice A v.pre.length c, .slice B v.build.length d]] w fun e w' => e = .returned (.bool (goodV v)) ∧ Below w.heap.size w w' := by
  rw [shortB_iff] at hs1 hs2
  exact refGood_all v A c B d w hr1 hr2 (by unfold maxLen; omega) (by unfold maxLen; omega) (fun x hx => by have := hs1.2 x hx; unfold maxLen; omega) fun x hx => by have := hs2.2 x hx; unfold maxLen; omega
set_option maxRecDepth 100000 in
set_option maxHeartbeats 1600000 in
theorem refSame_any (u v : Ver) (A1 A2 B1 B2 : Option Addr) (c1 c2 d1 d2 : Nat) (w : World) (r1 : SRow w A1 u.pre.length u.pre) (r2 : SRow w A2 u.build.length u.build) (q1 : SRow w B1 v.pre.length v.pre) (q2 : SRow w B2 v.build.length v.build)
    (hn1 : u.pre.length ≤ maxLen) (hn2 : u.build.length ≤ maxLen) (hn3 : v.pre.length ≤ maxLen) (hn4 : v.build.length ≤ maxLen) :
    Calls Tryz.prog 27 #[.agg #[.int .u64 (u.a : Int), .int .u64 (u.b : Int), .int .u64 (u.c : Int), .slice A1 u.pre.length c1, .slice A2 u.build.length c2], .agg #[.int .u64 (v.a : Int), .int .u64 (v.b : Int), .int .u64 (v.c : Int), .slice B1 v.pre.length d1, .slice B2 v.build.length d2]] w fun e w' => e = .returned (.bool (sameV u v)) ∧ Below w.heap.size w w' := by
  have HBa : Hid (Below w.heap.size w ((w.alloc (.cells #[.int .u64 (u.a : Int), .int .u64 (u.b : Int), .int .u64 (u.c : Int), .slice A1 u.pre.length c1, .slice A2 u.build.length c2] 32)).alloc (.cells #[.int .u64 (v.a : Int), .int .u64 (v.b : Int), .int .u64 (v.c : Int), .slice B1 v.pre.length d1, .slice B2 v.build.length d2] 32))) := ((Below.refl _ _).alloc (Nat.le_refl _) _).alloc (by simp) _
  have R1 := Lib.hid (r1.kept HBa.out)
  have R2 := Lib.hid (r2.kept HBa.out)
  have Q1 := Lib.hid (q1.kept HBa.out)
  have Q2 := Lib.hid (q2.kept HBa.out)
  have N1 := Lib.hid hn1
  have N2 := Lib.hid hn2
  have N3 := Lib.hid hn3
  have N4 := Lib.hid hn4
  have K1 : Hid (At5 ((w.alloc (.cells #[.int .u64 (u.a : Int), .int .u64 (u.b : Int), .int .u64 (u.c : Int), .slice A1 u.pre.length c1, .slice A2 u.build.length c2] 32)).alloc (.cells #[.int .u64 (v.a : Int), .int .u64 (v.b : Int), .int .u64 (v.c : Int), .slice B1 v.pre.length d1, .slice B2 v.build.length d2] 32)) w.heap.size (.int .u64 (u.a : Int)) (.int .u64 (u.b : Int)) (.int .u64 (u.c : Int)) (.slice A1 u.pre.length c1) (.slice A2 u.build.length c2)) := (At5.new w 32 _ _ _ _ _).kept ((Below.refl _ _).alloc (Nat.le_refl _) _) (by simp)
  have K2 : Hid (At5 ((w.alloc (.cells #[.int .u64 (u.a : Int), .int .u64 (u.b : Int), .int .u64 (u.c : Int), .slice A1 u.pre.length c1, .slice A2 u.build.length c2] 32)).alloc (.cells #[.int .u64 (v.a : Int), .int .u64 (v.b : Int), .int .u64 (v.c : Int), .slice B1 v.pre.length d1, .slice B2 v.build.length d2] 32)) (w.heap.size + 1) (.int .u64 (v.a : Int)) (.int .u64 (v.b : Int)) (.int .u64 (v.c : Int)) (.slice B1 v.pre.length d1) (.slice B2 v.build.length d2)) := by
    have := At5.new (w.alloc (.cells #[.int .u64 (u.a : Int), .int .u64 (u.b : Int), .int .u64 (u.c : Int), .slice A1 u.pre.length c1, .slice A2 u.build.length c2] 32)) 32 (.int .u64 (v.a : Int)) (.int .u64 (v.b : Int)) (.int .u64 (v.c : Int)) (.slice B1 v.pre.length d1) (.slice B2 v.build.length d2)
    rw [size_alloc] at this; exact this
  clear r1 r2 q1 q2 hn1 hn2 hn3 hn4
  by_cases h1 : u.a = v.a
  · have e1 : ((u.a : Int) == (v.a : Int)) = true := by simp [h1]
    by_cases h2 : u.b = v.b
    · have e2 : ((u.b : Int) == (v.b : Int)) = true := by simp [h2]
      by_cases h3 : u.c = v.c
      · have e3 : ((u.c : Int) == (v.c : Int)) = true := by simp [h3]
        have HF : Hid (sameV u v = (sameB u.pre v.pre && sameB u.build v.build)) := by unfold Hid sameV; rw [decide_eq_true ⟨h1, h2, h3⟩]; rfl
        clear h1 h2 h3
        go_enter Tryz.func27, Tryz.ntmps27
        go_upto_region 1 with (fail)
        generalize ((w.alloc (.cells #[.int .u64 (u.a : Int), .int .u64 (u.b : Int), .int .u64 (u.c : Int), .slice A1 u.pre.length c1, .slice A2 u.build.length c2] 32)).alloc (.cells #[.int .u64 (v.a : Int), .int .u64 (v.b : Int), .int .u64 (v.c : Int), .slice B1 v.pre.length d1, .slice B2 v.build.length d2] 32)) = W at HBa R1 R2 Q1 Q2 K1 K2 ⊢
        have hz := K2.out.1
        have hzw := HBa.out.size
        obtain ⟨_, _, x0, x1, x2, x3, x4⟩ := K1.out
        obtain ⟨_, _, y0, y1, y2, y3, y4⟩ := K2.out
        go_wp2_with fail
        refine (same_any _ _ _ u.pre _ _ _ v.pre _ R1.out Q1.out N1.out N3.out).mono ?_
        rintro e w1 ⟨rfl, hb1⟩
        have L1 := Lib.hid (K1.out.kept hb1 (by omega))
        have L2 := Lib.hid (K2.out.kept hb1 (by omega))
        have R2' := Lib.hid (R2.out.kept hb1)
        have Q2' := Lib.hid (Q2.out.kept hb1)
        have HB1 := Lib.hid (HBa.out.trans (hb1.mono hzw))
        have hz1 := HB1.out.size
        clear hb1 x0 x1 x2 x3 x4 y0 y1 y2 y3 y4
        obtain ⟨_, _, x0, x1, x2, x3, x4⟩ := L1.out
        obtain ⟨_, _, y0, y1, y2, y3, y4⟩ := L2.out
        generalize sameB u.pre v.pre = g1 at HF ⊢
        cases g1
        · go_wp2
          go_ret
          exact ⟨by rw [HF.out]; rfl, HB1.out⟩
        go_wp2_with fail
        refine (same_any _ _ _ u.build _ _ _ v.build _ R2'.out Q2'.out N2.out N4.out).mono ?_
        rintro e w2 ⟨rfl, hb2⟩
        have HB2 := Lib.hid (HB1.out.trans (hb2.mono hz1))
        clear hb2 x0 x1 x2 x3 x4 y0 y1 y2 y3 y4
        go_wp2
        go_ret
        exact ⟨by rw [HF.out]; simp, HB2.out⟩
      · have e3 : ((u.c : Int) == (v.c : Int)) = false := by simp; omega
        have HF := Lib.hid (sameV_no (u := u) (v := v) fun h => h3 h.2.2)
        clear h1 h2 h3
        go_enter Tryz.func27, Tryz.ntmps27
        go_wp2
        go_ret
        exact ⟨by rw [HF.out]; rfl, HBa.out⟩
    · have e2 : ((u.b : Int) == (v.b : Int)) = false := by simp; omega
      have HF := Lib.hid (sameV_no (u := u) (v := v) fun h => h2 h.2.1)
      clear h1 h2
      go_enter Tryz.func27, Tryz.ntmps27
      go_wp2
      go_ret
      exact ⟨by rw [HF.out]; rfl, HBa.out⟩
  · have e1 : ((u.a : Int) == (v.a : Int)) = false := by simp; omega
    have HF := Lib.hid (sameV_no (u := u) (v := v) fun h => h1 h.1)
    clear h1
    go_enter Tryz.func27, Tryz.ntmps27
    go_wp2
    go_ret
    exact ⟨by rw [HF.out]; rfl, HBa.out⟩
end Go.Proofs.YtdbdeadcffpbfaaGreatDoor.Semver
