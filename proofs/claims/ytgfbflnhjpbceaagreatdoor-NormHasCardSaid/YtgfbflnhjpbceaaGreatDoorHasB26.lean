/-
  What the theorem of the last text needs of these: PrRefCmp. Conditions: as each theorem states.
-/
import Derived.Test.YtgfbflnhjpbceaaGreatDoorHasB1
import Derived.Test.YtgfbflnhjpbceaaGreatDoorHasB3
import Derived.Test.YtgfbflnhjpbceaaGreatDoorHasB6
import Derived.Test.YtgfbflnhjpbceaaGreatDoorHasB25
import Derived.Deep.CutBlock
import Derived.Deep.DeepCutAuto
set_option maxRecDepth 100000
set_option maxHeartbeats 25600000
namespace Go.Proofs.YtgfbflnhjpbceaaGreatDoor.Prec
open Go.RowKit Num Ident Semver

theorem refNums_any (x y : Nat) (w : World) : Calls Tryz.prog 102 #[.int .u64 (x : Int), .int .u64 (y : Int)] w fun e w' => e = .returned (.int .i64 (ordN x y)) ∧ w = w' := by
 rcases Nat.lt_trichotomy x y with h | h | h
 ·have HF := Lib.hid (ordN_lt h)
  go_enter Tryz.func102, Tryz.ntmps102
  go_wp2
  go_ret
  exact ⟨by rw [HF.out]; rfl, rfl⟩
 ·have HF := Lib.hid (ordN_eq h)
  subst h
  go_enter Tryz.func102, Tryz.ntmps102
  go_wp2
  go_ret
  exact ⟨by rw [HF.out]; rfl, rfl⟩
 ·have HF := Lib.hid (ordN_gt h)
  go_enter Tryz.func102, Tryz.ntmps102
  go_wp2
  go_ret
  exact ⟨by rw [HF.out]; rfl, rfl⟩
theorem cmpV_core {u v : Ver} (h : cmpCore u v ≠ 0) : cmpV u v = cmpCore u v := lex_no h
theorem cmpV_pre {u v : Ver} (h1 : u.a = v.a) (h2 : u.b = v.b) (h3 : u.c = v.c) : cmpV u v = cmpPre u.pre v.pre := lex_yes (f := cmpCore) (by
 unfold cmpCore
 refine (lex_yes (f := fun u v : Ver => ordN u.a v.a) ((ordN_zero_iff _ _).2 h1)).trans ?_
 refine (lex_yes (f := fun u v : Ver => ordN u.b v.b) ((ordN_zero_iff _ _).2 h2)).trans ?_
 exact (ordN_zero_iff _ _).2 h3)
theorem cmpV_1 {u v : Ver} (h : u.a ≠ v.a) : cmpV u v = ordN u.a v.a := by
 have e := cmpCore_1 h
 rw [cmpV_core (by rw [e]; exact fun k => h ((ordN_zero_iff _ _).1 k)), e]
theorem cmpV_2 {u v : Ver} (h1 : u.a = v.a) (h : u.b ≠ v.b) : cmpV u v = ordN u.b v.b := by
 have e := cmpCore_2 h1 h
 rw [cmpV_core (by rw [e]; exact fun k => h ((ordN_zero_iff _ _).1 k)), e]
theorem cmpV_3 {u v : Ver} (h1 : u.a = v.a) (h2 : u.b = v.b) (h : u.c ≠ v.c) : cmpV u v = ordN u.c v.c := by
 have e : cmpCore u v = ordN u.c v.c := by
  unfold cmpCore
  refine (lex_yes (f := fun u v : Ver => ordN u.a v.a) ((ordN_zero_iff _ _).2 h1)).trans ?_
  exact lex_yes (f := fun u v : Ver => ordN u.b v.b) ((ordN_zero_iff _ _).2 h2)
 rw [cmpV_core (by rw [e]; exact fun k => h ((ordN_zero_iff _ _).1 k)), e]
theorem pre_none {x y : List (List UInt8)} (h1 : x.length = 0) (h2 : y.length = 0) : cmpPre x y = 0 := by
 obtain rfl := List.eq_nil_of_length_eq_zero h1
 obtain rfl := List.eq_nil_of_length_eq_zero h2
 exact pre_ordr.self _
theorem pre_rows {x y : List (List UInt8)} (h1 : x.length ≠ 0) (h2 : y.length ≠ 0) : cmpPre x y = cmpRows x y := by
 unfold cmpPre; exact lex_yes (f := fun x y => ordN (noneN x) (noneN y)) (ordN_eq (by unfold noneN; rw [if_neg h1, if_neg h2]))

theorem refCompare_any (u v : Ver) (A1 A2 B1 B2 : Option Addr) (c1 c2 d1 d2 : Nat) (w : World) (r1 : SRow w A1 u.pre.length u.pre) (q1 : SRow w B1 v.pre.length v.pre) (n1 : u.pre.length ≤ maxLen) (n2 : v.pre.length ≤ maxLen) (f1 : ∀ x ∈ u.pre, x.length ≤ 1000) (g1 : ∀ x ∈ v.pre, x.length ≤ 1000) :
  Calls Tryz.prog 67 #[.agg #[.int .u64 (u.a : Int), .int .u64 (u.b : Int), .int .u64 (u.c : Int), .slice A1 u.pre.length c1, .slice A2 u.build.length c2], .agg #[.int .u64 (v.a : Int), .int .u64 (v.b : Int), .int .u64 (v.c : Int), .slice B1 v.pre.length d1, .slice B2 v.build.length d2]] w fun e w' => e = .returned (.int .i64 (cmpV u v)) ∧ Below w.heap.size w w' := by
 have HBa : Hid (Below w.heap.size w ((w.alloc (.cells #[.int .u64 (u.a : Int), .int .u64 (u.b : Int), .int .u64 (u.c : Int), .slice A1 u.pre.length c1, .slice A2 u.build.length c2] 25)).alloc (.cells #[.int .u64 (v.a : Int), .int .u64 (v.b : Int), .int .u64 (v.c : Int), .slice B1 v.pre.length d1, .slice B2 v.build.length d2] 25))) := ((Below.refl _ _).alloc (Nat.le_refl _) _).alloc (by simp) _
 have R1 := Lib.hid (r1.kept HBa.out)
 have Q1 := Lib.hid (q1.kept HBa.out)
 have K1 : Hid (At5 ((w.alloc (.cells #[.int .u64 (u.a : Int), .int .u64 (u.b : Int), .int .u64 (u.c : Int), .slice A1 u.pre.length c1, .slice A2 u.build.length c2] 25)).alloc (.cells #[.int .u64 (v.a : Int), .int .u64 (v.b : Int), .int .u64 (v.c : Int), .slice B1 v.pre.length d1, .slice B2 v.build.length d2] 25)) w.heap.size (.int .u64 (u.a : Int)) (.int .u64 (u.b : Int)) (.int .u64 (u.c : Int)) (.slice A1 u.pre.length c1) (.slice A2 u.build.length c2)) := (At5.new w 25 _ _ _ _ _).kept ((Below.refl _ _).alloc (Nat.le_refl _) _) (by simp)
 have K2 : Hid (At5 ((w.alloc (.cells #[.int .u64 (u.a : Int), .int .u64 (u.b : Int), .int .u64 (u.c : Int), .slice A1 u.pre.length c1, .slice A2 u.build.length c2] 25)).alloc (.cells #[.int .u64 (v.a : Int), .int .u64 (v.b : Int), .int .u64 (v.c : Int), .slice B1 v.pre.length d1, .slice B2 v.build.length d2] 25)) (w.heap.size + 1) (.int .u64 (v.a : Int)) (.int .u64 (v.b : Int)) (.int .u64 (v.c : Int)) (.slice B1 v.pre.length d1) (.slice B2 v.build.length d2)) := by
  have := At5.new (w.alloc (.cells #[.int .u64 (u.a : Int), .int .u64 (u.b : Int), .int .u64 (u.c : Int), .slice A1 u.pre.length c1, .slice A2 u.build.length c2] 25)) 25 (.int .u64 (v.a : Int)) (.int .u64 (v.b : Int)) (.int .u64 (v.c : Int)) (.slice B1 v.pre.length d1) (.slice B2 v.build.length d2)
  rw [size_alloc] at this; exact this
 have N1 := Lib.hid n1
 have N2 := Lib.hid n2
 have F1 := Lib.hid f1
 have G1 := Lib.hid g1
 unfold maxLen at n1 n2
 clear r1 q1 f1 g1
 by_cases h1 : u.a = v.a
 ·have e1 : ((u.a : Int) == (v.a : Int)) = true := by simp [h1]
  have e1' : ((u.a : Int) != (v.a : Int)) = false := by simp [h1]
  by_cases h2 : u.b = v.b
  ·have e2 : ((u.b : Int) == (v.b : Int)) = true := by simp [h2]
   have e2' : ((u.b : Int) != (v.b : Int)) = false := by simp [h2]
   by_cases h3 : u.c = v.c
   ·have e3 : ((u.c : Int) == (v.c : Int)) = true := by simp [h3]
    have e3' : ((u.c : Int) != (v.c : Int)) = false := by simp [h3]
    have HP := Lib.hid (cmpV_pre h1 h2 h3)
    clear h1 h2 h3
    by_cases hu : u.pre.length = 0
    ·have eu : ((u.pre.length : Int) == 0) = true := by rw [beq_iff_eq]; omega
     by_cases hv : v.pre.length = 0
     ·have ev : ((v.pre.length : Int) == 0) = true := by rw [beq_iff_eq]; omega
      have HF := Lib.hid (HP.out.trans (pre_none hu hv))
      clear hu hv
      go_enter Tryz.func67, Tryz.ntmps67
      go_upto_region 1 with (fail)
      generalize ((w.alloc (.cells #[.int .u64 (u.a : Int), .int .u64 (u.b : Int), .int .u64 (u.c : Int), .slice A1 u.pre.length c1, .slice A2 u.build.length c2] 25)).alloc (.cells #[.int .u64 (v.a : Int), .int .u64 (v.b : Int), .int .u64 (v.c : Int), .slice B1 v.pre.length d1, .slice B2 v.build.length d2] 25)) = W at HBa R1 Q1 K1 K2 ⊢
      obtain ⟨_, _, x0, x1, x2, x3, x4⟩ := K1.out
      obtain ⟨_, _, y0, y1, y2, y3, y4⟩ := K2.out
      go_wp2
      go_ret
      exact ⟨by rw [HF.out]; rfl, HBa.out⟩
     ·have ev : ((v.pre.length : Int) == 0) = false := by rw [beq_eq_false_iff_ne]; omega
      have HF := Lib.hid (HP.out.trans (cmpPre_one hu hv))
      clear hu hv
      go_enter Tryz.func67, Tryz.ntmps67
      go_upto_region 1 with (fail)
      generalize ((w.alloc (.cells #[.int .u64 (u.a : Int), .int .u64 (u.b : Int), .int .u64 (u.c : Int), .slice A1 u.pre.length c1, .slice A2 u.build.length c2] 25)).alloc (.cells #[.int .u64 (v.a : Int), .int .u64 (v.b : Int), .int .u64 (v.c : Int), .slice B1 v.pre.length d1, .slice B2 v.build.length d2] 25)) = W at HBa R1 Q1 K1 K2 ⊢
      obtain ⟨_, _, x0, x1, x2, x3, x4⟩ := K1.out
      obtain ⟨_, _, y0, y1, y2, y3, y4⟩ := K2.out
      go_wp2
      go_ret
      exact ⟨by rw [HF.out]; rfl, HBa.out⟩
    ·have eu : ((u.pre.length : Int) == 0) = false := by rw [beq_eq_false_iff_ne]; omega
     by_cases hv : v.pre.length = 0
     ·have ev : ((v.pre.length : Int) == 0) = true := by rw [beq_iff_eq]; omega
      have HF := Lib.hid (HP.out.trans (cmpPre_two hu hv))
      clear hu hv
      go_enter Tryz.func67, Tryz.ntmps67
      go_upto_region 1 with (fail)
      generalize ((w.alloc (.cells #[.int .u64 (u.a : Int), .int .u64 (u.b : Int), .int .u64 (u.c : Int), .slice A1 u.pre.length c1, .slice A2 u.build.length c2] 25)).alloc (.cells #[.int .u64 (v.a : Int), .int .u64 (v.b : Int), .int .u64 (v.c : Int), .slice B1 v.pre.length d1, .slice B2 v.build.length d2] 25)) = W at HBa R1 Q1 K1 K2 ⊢
      obtain ⟨_, _, x0, x1, x2, x3, x4⟩ := K1.out
      obtain ⟨_, _, y0, y1, y2, y3, y4⟩ := K2.out
      go_wp2
      go_ret
      exact ⟨by rw [HF.out]; rfl, HBa.out⟩
     ·have ev : ((v.pre.length : Int) == 0) = false := by rw [beq_eq_false_iff_ne]; omega
      have HF := Lib.hid (HP.out.trans (pre_rows hu hv))
      clear hu hv
      go_enter Tryz.func67, Tryz.ntmps67
      go_upto_region 1 with (fail)
      generalize ((w.alloc (.cells #[.int .u64 (u.a : Int), .int .u64 (u.b : Int), .int .u64 (u.c : Int), .slice A1 u.pre.length c1, .slice A2 u.build.length c2] 25)).alloc (.cells #[.int .u64 (v.a : Int), .int .u64 (v.b : Int), .int .u64 (v.c : Int), .slice B1 v.pre.length d1, .slice B2 v.build.length d2] 25)) = W at HBa R1 Q1 K1 K2 ⊢
      obtain ⟨_, _, x0, x1, x2, x3, x4⟩ := K1.out
      obtain ⟨_, _, y0, y1, y2, y3, y4⟩ := K2.out
      go_wp2_with fail
      refine (refRows_any _ _ _ u.pre _ _ _ v.pre _ R1.out Q1.out N1.out N2.out F1.out G1.out).mono ?_
      rintro e w3 ⟨rfl, hb3⟩
      have B3 := Lib.hid (HBa.out.trans (hb3.mono HBa.out.size))
      clear hb3 x0 x1 x2 x3 x4 y0 y1 y2 y3 y4
      go_wp2
      go_ret
      exact ⟨by rw [HF.out]; rfl, B3.out⟩
   ·have e3 : ((u.c : Int) == (v.c : Int)) = false := by simp; omega
    have e3' : ((u.c : Int) != (v.c : Int)) = true := by simp; omega
    have HF := Lib.hid (cmpV_3 h1 h2 h3)
    clear h1 h2 h3
    go_enter Tryz.func67, Tryz.ntmps67
    go_upto_region 1 with (fail)
    generalize ((w.alloc (.cells #[.int .u64 (u.a : Int), .int .u64 (u.b : Int), .int .u64 (u.c : Int), .slice A1 u.pre.length c1, .slice A2 u.build.length c2] 25)).alloc (.cells #[.int .u64 (v.a : Int), .int .u64 (v.b : Int), .int .u64 (v.c : Int), .slice B1 v.pre.length d1, .slice B2 v.build.length d2] 25)) = W at HBa R1 Q1 K1 K2 ⊢
    obtain ⟨_, _, x0, x1, x2, x3, x4⟩ := K1.out
    obtain ⟨_, _, y0, y1, y2, y3, y4⟩ := K2.out
    go_wp2_with fail
    refine (refNums_any _ _ _).mono ?_
    rintro e w' ⟨rfl, rfl⟩
    go_wp2
    go_ret
    exact ⟨by rw [HF.out]; rfl, HBa.out⟩
  ·have e2 : ((u.b : Int) == (v.b : Int)) = false := by simp; omega
   have e2' : ((u.b : Int) != (v.b : Int)) = true := by simp; omega
   have HF := Lib.hid (cmpV_2 h1 h2)
   clear h1 h2
   go_enter Tryz.func67, Tryz.ntmps67
   go_upto_region 1 with (fail)
   generalize ((w.alloc (.cells #[.int .u64 (u.a : Int), .int .u64 (u.b : Int), .int .u64 (u.c : Int), .slice A1 u.pre.length c1, .slice A2 u.build.length c2] 25)).alloc (.cells #[.int .u64 (v.a : Int), .int .u64 (v.b : Int), .int .u64 (v.c : Int), .slice B1 v.pre.length d1, .slice B2 v.build.length d2] 25)) = W at HBa R1 Q1 K1 K2 ⊢
   obtain ⟨_, _, x0, x1, x2, x3, x4⟩ := K1.out
   obtain ⟨_, _, y0, y1, y2, y3, y4⟩ := K2.out
   go_wp2_with fail
   refine (refNums_any _ _ _).mono ?_
   rintro e w' ⟨rfl, rfl⟩
   go_wp2
   go_ret
   exact ⟨by rw [HF.out]; rfl, HBa.out⟩
 ·have e1 : ((u.a : Int) == (v.a : Int)) = false := by simp; omega
  have e1' : ((u.a : Int) != (v.a : Int)) = true := by simp; omega
  have HF := Lib.hid (cmpV_1 h1)
  clear h1
  go_enter Tryz.func67, Tryz.ntmps67
  go_upto_region 1 with (fail)
  generalize ((w.alloc (.cells #[.int .u64 (u.a : Int), .int .u64 (u.b : Int), .int .u64 (u.c : Int), .slice A1 u.pre.length c1, .slice A2 u.build.length c2] 25)).alloc (.cells #[.int .u64 (v.a : Int), .int .u64 (v.b : Int), .int .u64 (v.c : Int), .slice B1 v.pre.length d1, .slice B2 v.build.length d2] 25)) = W at HBa R1 Q1 K1 K2 ⊢
  obtain ⟨_, _, x0, x1, x2, x3, x4⟩ := K1.out
  obtain ⟨_, _, y0, y1, y2, y3, y4⟩ := K2.out
  go_wp2_with fail
  refine (refNums_any _ _ _).mono ?_
  rintro e w' ⟨rfl, rfl⟩
  go_wp2
  go_ret
  exact ⟨by rw [HF.out]; rfl, HBa.out⟩
end Go.Proofs.YtgfbflnhjpbceaaGreatDoor.Prec
