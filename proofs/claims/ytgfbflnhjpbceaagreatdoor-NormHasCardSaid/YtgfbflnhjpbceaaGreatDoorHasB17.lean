/-
  What the theorem of the last text needs of these: SvParse, RgVer, RgTell. Conditions: as each theorem states.
-/
import Derived.Test.YtgfbflnhjpbceaaGreatDoorHasB1
import Derived.Test.YtgfbflnhjpbceaaGreatDoorHasB6
import Derived.Test.YtgfbflnhjpbceaaGreatDoorHasB15
import Derived.Test.YtgfbflnhjpbceaaGreatDoorHasB16
import Derived.Deep.QuietTactic
import Derived.BigQuiet
import Derived.Deep.CutBlock
import Derived.Deep.DeepCutAuto
set_option maxRecDepth 100000
set_option maxHeartbeats 25600000
namespace Go.Proofs.YtgfbflnhjpbceaaGreatDoor.Semver
open Go.RowKit Num Ident

theorem readRow_pre (A : Option Addr) (n c : Nat) (l : List UInt8) (p : Nat) (w : World) (h : Row w A n l) (hc : n ≤ c) (hp : p ≤ n) :
  Calls Tryz.prog 182 #[.slice A n c, .int .i64 p, .int .u8 45] w (RowPostF w (rowAt l p 45)) := by
 have hm := h.2.1
 unfold maxLen at hm
 have HR := Lib.hid h
 have HL := Lib.hid h.1
 have HC := Lib.hid h.2.2
 clear h
 by_cases h0 : p = n
 ·have HF := Lib.hid (rowAt_none (l := l) (p := p) (m := 45) (.inl (by rw [HL.out]; exact h0)))
  subst h0
  have hb : ((p : Int) == (p : Int)) = true := by simp
  rw [HF.out]
  go_enter Tryz.func182, Tryz.ntmps182
  go_wp2
  go_ret3
  exact ⟨none, 0, rfl, Nat.le_refl _, SRow.none_ _ _, Below.refl _ _, Fresh.none_ _ _⟩
 ·have hlt : p < n := by omega
  have hb : ((p : Int) == (n : Int)) = false := by simp; omega
  have H0 : Hid (p ≠ l.length) := by unfold Hid; rw [HL.out]; exact h0
  obtain ⟨b, o, rfl, hbl, hcell⟩ := HC.out (by omega)
  have hx := hcell p hlt
  clear hcell HC h0
  have hbd := byteAt_bd l p
  have HN := Lib.hid (fun h => rowAt_none (l := l) (p := p) (m := 45) (.inr h))
  have HY := Lib.hid (fun h => rowAt_some (l := l) (p := p) (m := 45) H0.out h)
  generalize byteAt l p = x at hx hbd HN HY
  by_cases hxm : x = 45
  ·have HF := Lib.hid (HY.out (by exact hxm))
   have h1 : (x != 45) = false := by simp [hxm]
   clear hxm HN HY
   rw [HF.out]
   have HQ := Lib.hid (fun W hW => row_anyF (some ⟨b, o, none⟩) n c l ((p + 1 : Nat) : Int) true W hW hc)
   rw [show ((45 : Nat) == 45) = true from rfl]
   obtain ⟨⟨E, N, xs⟩, hr⟩ : ∃ t, row l ((p + 1 : Nat) : Int) true = t := ⟨_, rfl⟩
   have HE := Lib.hid (row_end l (p + 1) true (by rw [HL.out]; exact hlt))
   rw [hr] at HQ HE ⊢
   clear hr HF
   have hE : p + 1 + N ≤ n := by have := HE.out; rw [HL.out] at this; exact this
   go_enter Tryz.func182, Tryz.ntmps182
   go_wp2_with fail
   refine (HQ.out _ HR.out).mono ?_
   rintro e w1 ⟨A1, c1, rfl, hc1, hr1, hb1, hf1⟩
   simp only at hc1 hr1 hf1 ⊢
   have HR1 := Lib.hid hr1
   have HB1 := Lib.hid hb1
   clear hr1 hb1
   go_wp2
   go_ret3
   exact ⟨A1, c1, by simp, hc1, HR1.out, HB1.out, hf1⟩
  ·have HF := Lib.hid (HN.out (by exact hxm))
   have h1 : (x != 45) = true := by simp [hxm]
   clear hxm HN HY
   rw [HF.out]
   go_enter Tryz.func182, Tryz.ntmps182
   go_wp2
   go_ret3
   exact ⟨none, 0, rfl, Nat.le_refl _, SRow.none_ _ _, Below.refl _ _, Fresh.none_ _ _⟩

theorem readRow_build (A : Option Addr) (n c : Nat) (l : List UInt8) (p : Nat) (w : World) (h : Row w A n l) (hc : n ≤ c) (hp : p ≤ n) :
  Calls Tryz.prog 182 #[.slice A n c, .int .i64 p, .int .u8 43] w (RowPostF w (rowAt l p 43)) := by
 have hm := h.2.1
 unfold maxLen at hm
 have HR := Lib.hid h
 have HL := Lib.hid h.1
 have HC := Lib.hid h.2.2
 clear h
 by_cases h0 : p = n
 ·have HF := Lib.hid (rowAt_none (l := l) (p := p) (m := 43) (.inl (by rw [HL.out]; exact h0)))
  subst h0
  have hb : ((p : Int) == (p : Int)) = true := by simp
  rw [HF.out]
  go_enter Tryz.func182, Tryz.ntmps182
  go_wp2
  go_ret3
  exact ⟨none, 0, rfl, Nat.le_refl _, SRow.none_ _ _, Below.refl _ _, Fresh.none_ _ _⟩
 ·have hlt : p < n := by omega
  have hb : ((p : Int) == (n : Int)) = false := by simp; omega
  have H0 : Hid (p ≠ l.length) := by unfold Hid; rw [HL.out]; exact h0
  obtain ⟨b, o, rfl, hbl, hcell⟩ := HC.out (by omega)
  have hx := hcell p hlt
  clear hcell HC h0
  have hbd := byteAt_bd l p
  have HN := Lib.hid (fun h => rowAt_none (l := l) (p := p) (m := 43) (.inr h))
  have HY := Lib.hid (fun h => rowAt_some (l := l) (p := p) (m := 43) H0.out h)
  generalize byteAt l p = x at hx hbd HN HY
  by_cases hxm : x = 43
  ·have HF := Lib.hid (HY.out (by exact hxm))
   have h1 : (x != 43) = false := by simp [hxm]
   clear hxm HN HY
   rw [HF.out]
   have HQ := Lib.hid (fun W hW => row_anyF (some ⟨b, o, none⟩) n c l ((p + 1 : Nat) : Int) false W hW hc)
   rw [show ((43 : Nat) == 45) = false from rfl]
   obtain ⟨⟨E, N, xs⟩, hr⟩ : ∃ t, row l ((p + 1 : Nat) : Int) false = t := ⟨_, rfl⟩
   have HE := Lib.hid (row_end l (p + 1) false (by rw [HL.out]; exact hlt))
   rw [hr] at HQ HE ⊢
   clear hr HF
   have hE : p + 1 + N ≤ n := by have := HE.out; rw [HL.out] at this; exact this
   go_enter Tryz.func182, Tryz.ntmps182
   go_wp2_with fail
   refine (HQ.out _ HR.out).mono ?_
   rintro e w1 ⟨A1, c1, rfl, hc1, hr1, hb1, hf1⟩
   simp only at hc1 hr1 hf1 ⊢
   have HR1 := Lib.hid hr1
   have HB1 := Lib.hid hb1
   clear hr1 hb1
   go_wp2
   go_ret3
   exact ⟨A1, c1, by simp, hc1, HR1.out, HB1.out, hf1⟩
  ·have HF := Lib.hid (HN.out (by exact hxm))
   have h1 : (x != 43) = true := by simp [hxm]
   clear hxm HN HY
   rw [HF.out]
   go_enter Tryz.func182, Tryz.ntmps182
   go_wp2
   go_ret3
   exact ⟨none, 0, rfl, Nat.le_refl _, SRow.none_ _ _, Below.refl _ _, Fresh.none_ _ _⟩

def VerPostF (w : World) (r : Out) (e : Ending) (w' : World) : Prop :=
 ∃ A c B d, e = .returned (.tuple #[.agg #[.int .u64 (r.2.2.a : Int), .int .u64 (r.2.2.b : Int), .int .u64 (r.2.2.c : Int), .slice A r.2.2.pre.length c, .slice B r.2.2.build.length d], .int .i64 (r.2.1 : Int), .int .i64 (r.1 : Int)]) ∧
  r.2.2.pre.length ≤ c ∧ r.2.2.build.length ≤ d ∧ SRow w' A r.2.2.pre.length r.2.2.pre ∧ SRow w' B r.2.2.build.length r.2.2.build ∧ Below w.heap.size w w' ∧ Fresh w.heap.size A r.2.2.pre.length ∧ Fresh w.heap.size B r.2.2.build.length
theorem VerPostF.bad {w w' : World} {q f : Nat} (hb : Below w.heap.size w w') : VerPostF w (f, q, noVer) (.returned (.tuple #[.agg #[.int .u64 0, .int .u64 0, .int .u64 0, .slice none 0 0, .slice none 0 0], .int .i64 (q : Int), .int .i64 (f : Int)])) w' :=
 ⟨none, 0, none, 0, rfl, Nat.le_refl _, Nat.le_refl _, SRow.none_ _ _, SRow.none_ _ _, hb, Fresh.none_ _ _, Fresh.none_ _ _⟩

theorem parse_out (A : Option Addr) (n c : Nat) (l : List UInt8) (p : Int) (w : World) (h : Row w A n l) (ho : p < 0 ∨ (n : Int) < p) :
  Calls Tryz.prog 171 #[.slice A n c, .int .i64 p] w (VerPostF w (vparse l p)) := by
 have HE : Hid (vparse l p = (1, 0, noVer)) := by
  unfold Hid vparse; rw [if_pos (by rw [h.1]; exact ho)]
 rw [HE.out]
 clear h HE
 by_cases h0 : p < 0
 ·go_enter Tryz.func171, Tryz.ntmps171
  go_wp2
  exact bodyPost_ret (v := .tuple #[.agg #[.int .u64 0, .int .u64 0, .int .u64 0, .slice none 0 0, .slice none 0 0], .int .i64 0, .int .i64 1]) (by simp [results, Tryz.results171, go_sem]) rfl (VerPostF.bad (q := 0) (f := 1) ((Below.refl _ _).alloc (Nat.le_refl _) _))
 ·have h1 : (n : Int) < p := by omega
  clear ho
  go_enter Tryz.func171, Tryz.ntmps171
  go_wp2
  exact bodyPost_ret (v := .tuple #[.agg #[.int .u64 0, .int .u64 0, .int .u64 0, .slice none 0 0, .slice none 0 0], .int .i64 0, .int .i64 1]) (by simp [results, Tryz.results171, go_sem]) rfl (VerPostF.bad (q := 0) (f := 1) ((Below.refl _ _).alloc (Nat.le_refl _) _))

theorem parse_in (A : Option Addr) (n c : Nat) (l : List UInt8) (p : Nat) (w : World) (h : Row w A n l) (hc : n ≤ c) (hp : p ≤ n) :
  Calls Tryz.prog 171 #[.slice A n c, .int .i64 p] w (VerPostF w (vparse l p)) := by
 have hm := h.2.1
 unfold maxLen at hm
 have HR := Lib.hid h
 have HL := Lib.hid h.1
 have HE : Hid (vparse l p = inside l p) := by
  unfold Hid vparse; rw [if_neg (by rw [h.1]; omega), Int.toNat_natCast]
 rw [HE.out]
 clear h HE
 have hp0 : ¬ (p : Int) < 0 := by omega
 have hp1 : ¬ n < p := by omega
 have HB0 : Hid (Below w.heap.size w (w.alloc (.cells #[.int .u64 0, .int .u64 0, .int .u64 0, .slice none 0 0, .slice none 0 0] 25))) := (Below.refl _ _).alloc (Nat.le_refl _) _
 obtain ⟨⟨f, q, x, y, z⟩, hk⟩ : ∃ t, core l p = t := ⟨_, rfl⟩
 have HQ := Lib.hid (core_end l p (by rw [HL.out]; exact hp))
 have HI : Hid (inside l p = if f ≠ 0 then (f, q, noVer) else tail1 l x y z q) := by unfold Hid inside; rw [hk]
 have HO : Hid (coreOut (core l p) = .tuple #[.agg #[.int .u64 (x : Int), .int .u64 (y : Int), .int .u64 (z : Int)], .int .i64 (q : Int), .int .i64 (f : Int)]) := by unfold Hid; rw [hk]; rfl
 rw [hk] at HQ
 have hq : q ≤ n := by have := HQ.out; rw [HL.out] at this; exact this
 clear hk HQ
 go_enter Tryz.func171, Tryz.ntmps171
 go_wp2_with fail
 refine (readCore_any _ _ _ l p _ (HR.out.kept HB0.out) hc hp).mono ?_
 rw [HO.out]
 rintro e w1 ⟨rfl, hb1⟩
 have hz1 : w.heap.size + 1 ≤ w1.heap.size := by have := hb1.size; simpa using this
 have HV1 : Hid (At5 w1 w.heap.size (.int .u64 0) (.int .u64 0) (.int .u64 0) (.slice none 0 0) (.slice none 0 0)) := (At5.new w 25 _ _ _ _ _).kept hb1 (by simp)
 have HC1 : Hid (At3 (w1.alloc (.cells #[.int .u64 (x : Int), .int .u64 (y : Int), .int .u64 (z : Int)] 99)) w1.heap.size (.int .u64 (x : Int)) (.int .u64 (y : Int)) (.int .u64 (z : Int))) := At3.new w1 99 _ _ _
 have HB1w : Hid (Below w.heap.size w w1) := HB0.out.trans (hb1.mono (by simp))
 have HB1 : Hid (Below w.heap.size w (w1.alloc (.cells #[.int .u64 (x : Int), .int .u64 (y : Int), .int .u64 (z : Int)] 99))) := (HB0.out.trans (hb1.mono (by simp))).alloc (by omega) _
 clear hb1
 by_cases h0 : f = 0
 ·subst h0
  have HI2 : Hid (inside l p = tail1 l x y z q) := HI.out.trans (if_neg (by simp))
  clear HI
  have HP2 := Lib.hid (fun W hW => readRow_pre A n c l q W hW hc hq)
  have HQ := Lib.hid (rowAt_end l q 45 (by rw [HL.out]; exact hq))
  have HT : Hid (tail1 l x y z q = if (rowAt l q 45).1 ≠ 0 then ((rowAt l q 45).1, (rowAt l q 45).2.1, noVer) else tail2 l x y z (rowAt l q 45).2.2 (rowAt l q 45).2.1) := rfl
  obtain ⟨⟨f, q2, xs⟩, hr⟩ : ∃ t, rowAt l q 45 = t := ⟨_, rfl⟩
  rw [hr] at HP2 HQ HT
  clear hr
  have hq2 : q2 ≤ n := by have := HQ.out; rw [HL.out] at this; exact this
  go_wp2_with fail
  refine (HP2.out _ (HR.out.kept HB1.out)).mono ?_
  rintro e w2 ⟨A2, c2, rfl, hc2, hr2, hb2, hf2⟩
  simp only at hc2 hr2 hf2 ⊢
  replace hf2 := hf2.mono (B' := w.heap.size) (by simp; omega)
  have hz2 : w1.heap.size + 1 ≤ w2.heap.size := by have := hb2.size; simpa using this
  have HB2 := Lib.hid (HB1.out.trans (hb2.mono (by simp; omega)))
  have HV2 : Hid (At5 w2 w.heap.size (.int .u64 0) (.int .u64 0) (.int .u64 0) (.slice none 0 0) (.slice none 0 0)) := (HV1.out.kept ((Below.refl _ _).alloc (Nat.le_refl _) _) (by omega)).kept hb2 (by simp; omega)
  have HC2 := Lib.hid (HC1.out.kept hb2 (by simp))
  have HR2 := Lib.hid hr2
  clear hb2 hr2 HV1 HC1
  by_cases h0 : f = 0
  ·subst h0
   have HI3 : Hid (inside l p = tail2 l x y z xs q2) := HI2.out.trans (HT.out.trans (if_neg (by simp)))
   clear HT HI2
   have HP3 := Lib.hid (fun W hW => readRow_build A n c l q2 W hW hc hq2)
   have HQ3 := Lib.hid (rowAt_end l q2 43 (by rw [HL.out]; exact hq2))
   have HT : Hid (tail2 l x y z xs q2 = if (rowAt l q2 43).1 ≠ 0 then ((rowAt l q2 43).1, (rowAt l q2 43).2.1, noVer) else (0, (rowAt l q2 43).2.1, ⟨x, y, z, xs, (rowAt l q2 43).2.2⟩)) := rfl
   obtain ⟨⟨f, q3, ys⟩, hr⟩ : ∃ t, rowAt l q2 43 = t := ⟨_, rfl⟩
   rw [hr] at HP3 HQ3 HT
   clear hr
   go_wp2_with fail
   refine (HP3.out _ (HR.out.kept HB2.out)).mono ?_
   rintro e w3 ⟨A3, c3, rfl, hc3, hr3, hb3, hf3⟩
   simp only at hc3 hr3 hf3 ⊢
   replace hf3 := hf3.mono (B' := w.heap.size) (by omega)
   have hz3 : w2.heap.size ≤ w3.heap.size := hb3.size
   have HB3 := Lib.hid (HB2.out.trans (hb3.mono (by omega)))
   have HV3 := Lib.hid (HV2.out.kept hb3 (by omega))
   have HC3 := Lib.hid (HC2.out.kept hb3 (by omega))
   have HR3 := Lib.hid hr3
   have HR2' := Lib.hid (HR2.out.kept hb3)
   clear hb3 hr3 HV2 HC2
   by_cases h0 : f = 0
   ·subst h0
    have HI4 : Hid (inside l p = (0, q3, ⟨x, y, z, xs, ys⟩)) := HI3.out.trans (HT.out.trans (if_neg (by simp)))
    clear HT HI3
    obtain ⟨hvl, hvf, hv0, hv1, hv2, hv3, hv4⟩ := HV3.out
    obtain ⟨hcl, hcf, hk0, hk1, hk2⟩ := HC3.out
    have HA := Lib.hid (HR2'.out.set5 hv0 hv1 hv2 hv3 hv4 (by simp) (by simp) (by simp) (by simp) (by simp) (.int .u64 (x : Int)) (.int .u64 (y : Int)) (.int .u64 (z : Int)) (.slice A2 xs.length c2) (.slice A3 ys.length c3))
    have HB := Lib.hid (HR3.out.set5 hv0 hv1 hv2 hv3 hv4 (by simp) (by simp) (by simp) (by simp) (by simp) (.int .u64 (x : Int)) (.int .u64 (y : Int)) (.int .u64 (z : Int)) (.slice A2 xs.length c2) (.slice A3 ys.length c3))
    go_wp2
    exact bodyPost_ret (v := .tuple #[.agg #[.int .u64 (x : Int), .int .u64 (y : Int), .int .u64 (z : Int), .slice A2 xs.length c2, .slice A3 ys.length c3], .int .i64 (q3 : Int), .int .i64 0]) (by simp [results, Tryz.results171, go_sem, hv0, hv1, hv2, hv3, hv4]) rfl (by rw [HI4.out]; exact ⟨A2, c2, A3, c3, rfl, hc2, hc3, HA.out, HB.out, (((((HB3.out.setCell (by simp) _).setCell (by simp) _).setCell (by simp) _).setCell (by simp) _).setCell (by simp) _), hf2, hf3⟩)
   ·have HI4 : Hid (inside l p = (f, q3, noVer)) := HI3.out.trans (HT.out.trans (if_pos h0))
    clear HT HI3
    have hb1 : ((f : Int) != 0) = true := by simp [h0]
    have hb2 : ((f : Int) == 0) = false := by simp [h0]
    clear h0
    obtain ⟨hvl, hvf, hv0, hv1, hv2, hv3, hv4⟩ := HV3.out
    have hne := Nat.ne_of_lt hvl
    go_wp2
    exact bodyPost_ret (v := .tuple #[.agg #[.int .u64 0, .int .u64 0, .int .u64 0, .slice none 0 0, .slice none 0 0], .int .i64 (q3 : Int), .int .i64 (f : Int)]) (by simp [results, Tryz.results171, go_sem, hv0, hv1, hv2, hv3, hv4]) rfl (by rw [HI4.out]; exact VerPostF.bad (((((HB3.out.setCell (by simp) _).setCell (by simp) _).setCell (by simp) _).setCell (by simp) _).setCell (by simp) _))
  ·have HI3 : Hid (inside l p = (f, q2, noVer)) := HI2.out.trans (HT.out.trans (if_pos h0))
   clear HT HI2
   have hb1 : ((f : Int) != 0) = true := by simp [h0]
   have hb2 : ((f : Int) == 0) = false := by simp [h0]
   clear h0
   obtain ⟨hvl, hvf, hv0, hv1, hv2, hv3, hv4⟩ := HV2.out
   have hne := Nat.ne_of_lt hvl
   go_wp2
   exact bodyPost_ret (v := .tuple #[.agg #[.int .u64 0, .int .u64 0, .int .u64 0, .slice none 0 0, .slice none 0 0], .int .i64 (q2 : Int), .int .i64 (f : Int)]) (by simp [results, Tryz.results171, go_sem, hv0, hv1, hv2, hv3, hv4]) rfl (by rw [HI3.out]; exact VerPostF.bad (((((HB2.out.setCell (by simp) _).setCell (by simp) _).setCell (by simp) _).setCell (by simp) _).setCell (by simp) _))
 ·have HI2 : Hid (inside l p = (f, q, noVer)) := HI.out.trans (if_pos h0)
  clear HI
  have hb1 : ((f : Int) != 0) = true := by simp [h0]
  have hb2 : ((f : Int) == 0) = false := by simp [h0]
  clear h0
  obtain ⟨hvl, hvf, hv0, hv1, hv2, hv3, hv4⟩ := HV1.out
  have hne := Nat.ne_of_lt hvl
  go_wp2
  exact bodyPost_ret (v := .tuple #[.agg #[.int .u64 0, .int .u64 0, .int .u64 0, .slice none 0 0, .slice none 0 0], .int .i64 (q : Int), .int .i64 (f : Int)]) (by simp [results, Tryz.results171, go_sem, hv0, hv1, hv2, hv3, hv4, hvl]) rfl (by rw [HI2.out]; exact VerPostF.bad ((((((HB1w.out.setCell (by simp) _).setCell (by simp) _).setCell (by simp) _).setCell (by simp) _).setCell (by simp) _).alloc (by simp; omega) _))

theorem parse_anyF (A : Option Addr) (n c : Nat) (l : List UInt8) (p : Int) (w : World) (h : Row w A n l) (hc : n ≤ c) :
  Calls Tryz.prog 171 #[.slice A n c, .int .i64 p] w (VerPostF w (vparse l p)) := by
 by_cases ho : p < 0 ∨ (n : Int) < p
 ·exact parse_out A n c l p w h ho
 ·obtain ⟨k, rfl⟩ := Int.eq_ofNat_of_zero_le (show 0 ≤ p by omega)
  exact parse_in A n c l k w h hc (by omega)

end Go.Proofs.YtgfbflnhjpbceaaGreatDoor.Semver
namespace Go.Proofs.YtgfbflnhjpbceaaGreatDoor.Range
open Go.RowKit Num Ident Semver

theorem fit_good {v : Ver} (h : goodV v = true) : FitV v := by
 unfold goodV at h
 rw [Bool.and_eq_true, Bool.and_eq_true] at h
 obtain ⟨h1, h2, h3⟩ := h
 have hh := of_decide_eq_true h1
 unfold maxField at hh
 have b1 := goodFrom_bound _ _ h2
 have b2 := goodFrom_bound _ _ h3
 have l1 : v.pre.length ≤ 16 := by
  by_cases e : v.pre = []
  ·rw [e]; simp
  ·have := b1.1 e; omega
 have l2 : v.build.length ≤ 16 := by
  by_cases e : v.build = []
  ·rw [e]; simp
  ·have := b2.1 e; omega
 exact ⟨by omega, by omega, by omega, by unfold maxLen; omega, by unfold maxLen; omega, fun x hx => by have := b1.2 x hx; unfold maxLen; omega, fun x hx => by have := b2.2 x hx; unfold maxLen; omega⟩
theorem vparse_at (l s : List UInt8) (p : Nat) (h : Pl l p s) : vparse l p = ((vparse s 0).1, p + (vparse s 0).2.1, (vparse s 0).2.2) := by
 have h1 := vparse_place (l.take p) s
 have h2 : (l.take p).length = p := by rw [List.length_take]; have := h.le; omega
 have h3 : l.take p ++ s = l := by rw [h.eq, List.take_append_drop]
 rw [h2, h3] at h1
 exact h1
theorem At5.moved {W W' : World} {b B : Nat} {u0 u1 u2 u3 u4 : Value} (h : At5 W B u0 u1 u2 u3 u4) (hm : Moved b W W') (hne : B ≠ b) : At5 W' B u0 u1 u2 u3 u4 := by
 obtain ⟨h1, h2, c0, c1, c2, c3, c4⟩ := h
 have k := hm.block B h1 hne
 have kc : ∀ o, W'.cell? ⟨B, o, none⟩ = W.cell? ⟨B, o, none⟩ := fun o => World.cell?_of_block (w := W) (a := ⟨B, o, none⟩) k
 exact ⟨Nat.lt_of_lt_of_le h1 hm.size, fun o => (World.frozen?_of_block (w := W) (a := ⟨B, o, none⟩) k).trans (h2 o), (kc 0).trans c0, (kc 1).trans c1, (kc 2).trans c2, (kc 3).trans c3, (kc 4).trans c4⟩
theorem moved_set5 {b bv : Nat} {u w : World} (h : Moved b u w) (hb : b < u.heap.size) (hv : u.heap.size ≤ bv) (v0 v1 v2 v3 v4 : Value) : Moved b u (set5 w bv v0 v1 v2 v3 v4) := by
 unfold set5
 exact ((((h.set hb (p := ⟨bv, 0, none⟩) hv _).set hb (p := ⟨bv, 1, none⟩) hv _).set hb (p := ⟨bv, 2, none⟩) hv _).set hb (p := ⟨bv, 3, none⟩) hv _).set hb (p := ⟨bv, 4, none⟩) hv _
theorem rd_set5 {w : World} {b bv : Nat} {A : Option Addr} {n c p : Nat} (h : Rd w b A n c p) (hv : b < bv) (v0 v1 v2 v3 v4 : Value) : Rd (set5 w bv v0 v1 v2 v3 v4) b A n c p := by
 unfold set5
 exact ((((h.set (q := ⟨bv, 0, none⟩) hv _).set (q := ⟨bv, 1, none⟩) hv _).set (q := ⟨bv, 2, none⟩) hv _).set (q := ⟨bv, 3, none⟩) hv _).set (q := ⟨bv, 4, none⟩) hv _
theorem at7_set5 {w : World} {B bv : Nat} {u0 u1 u2 u3 u4 u5 u6 : Value} (h : At7 w B u0 u1 u2 u3 u4 u5 u6) (hv : B < bv) (v0 v1 v2 v3 v4 : Value) : At7 (set5 w bv v0 v1 v2 v3 v4) B u0 u1 u2 u3 u4 u5 u6 := by
 unfold set5
 exact h.kept (B := bv) (((((((Below.refl bv w).setCell (p := ⟨bv, 0, none⟩) (Nat.le_refl _) _).setCell (p := ⟨bv, 1, none⟩) (Nat.le_refl _) _).setCell (p := ⟨bv, 2, none⟩) (Nat.le_refl _) _).setCell (p := ⟨bv, 3, none⟩) (Nat.le_refl _) _).setCell (p := ⟨bv, 4, none⟩) (Nat.le_refl _) _)) hv
theorem ver_block {w W : World} {b bv : Nat} (hbw : b < w.heap.size) {A : Option Addr} {n c p : Nat} {v : Ver} {A1 B1 : Option Addr} {c1 d1 : Nat} (hR : Rd W b A n c p) (hM : Moved b w W) (hA : SRow W A1 v.pre.length v.pre) (hB : SRow W B1 v.build.length v.build) (h5 : At5 W bv (.int .u64 0) (.int .u64 0) (.int .u64 0) (.slice none 0 0) (.slice none 0 0)) (hv : w.heap.size < bv) (h7 : At7 W w.heap.size (.int .i64 0) (.int .u64 0) (.int .u64 0) (.int .u64 0) (.slice none 0 0) (.slice none 0 0) (.slice none 0 0)) :
  At5 (set5 W bv (.int .u64 (v.a : Int)) (.int .u64 (v.b : Int)) (.int .u64 (v.c : Int)) (.slice A1 v.pre.length c1) (.slice B1 v.build.length d1)) bv (.int .u64 (v.a : Int)) (.int .u64 (v.b : Int)) (.int .u64 (v.c : Int)) (.slice A1 v.pre.length c1) (.slice B1 v.build.length d1) ∧ Rd (set5 W bv (.int .u64 (v.a : Int)) (.int .u64 (v.b : Int)) (.int .u64 (v.c : Int)) (.slice A1 v.pre.length c1) (.slice B1 v.build.length d1)) b A n c p ∧ Moved b w (set5 W bv (.int .u64 (v.a : Int)) (.int .u64 (v.b : Int)) (.int .u64 (v.c : Int)) (.slice A1 v.pre.length c1) (.slice B1 v.build.length d1)) ∧ SRow (set5 W bv (.int .u64 (v.a : Int)) (.int .u64 (v.b : Int)) (.int .u64 (v.c : Int)) (.slice A1 v.pre.length c1) (.slice B1 v.build.length d1)) A1 v.pre.length v.pre ∧ SRow (set5 W bv (.int .u64 (v.a : Int)) (.int .u64 (v.b : Int)) (.int .u64 (v.c : Int)) (.slice A1 v.pre.length c1) (.slice B1 v.build.length d1)) B1 v.build.length v.build ∧ At7 (set5 W bv (.int .u64 (v.a : Int)) (.int .u64 (v.b : Int)) (.int .u64 (v.c : Int)) (.slice A1 v.pre.length c1) (.slice B1 v.build.length d1)) w.heap.size (.int .i64 0) (.int .u64 0) (.int .u64 0) (.int .u64 0) (.slice none 0 0) (.slice none 0 0) (.slice none 0 0) := by
 obtain ⟨hvl, hvf, g0, g1, g2, g3, g4⟩ := h5
 have h5 : At5 W bv (.int .u64 0) (.int .u64 0) (.int .u64 0) (.slice none 0 0) (.slice none 0 0) := ⟨hvl, hvf, g0, g1, g2, g3, g4⟩
 have hb : b < bv := by
  by_cases h : b < w.heap.size
  ·omega
  ·exact absurd hbw h
 exact ⟨h5.set5 _ _ _ _ _, rd_set5 hR hb _ _ _ _ _, moved_set5 hM hbw (Nat.le_of_lt hv) _ _ _ _ _, hA.set5 g0 g1 g2 g3 g4 (by simp) (by simp) (by simp) (by simp) (by simp) _ _ _ _ _, hB.set5 g0 g1 g2 g3 g4 (by simp) (by simp) (by simp) (by simp) (by simp) _ _ _ _ _, at7_set5 h7 hv _ _ _ _ _⟩
theorem ver_any (b : Nat) (A : Option Addr) (n c p : Nat) (l s : List UInt8) (kind : Int) (w : World) (hR : Rd w b A n c p) (hr : Row w A n l) (hc : n ≤ c) (hs : Pl l p s) :
  Calls Tryz.prog 160 #[.pointer (some ⟨b, 0, none⟩), .int .i64 kind] w (RgPost b A n c l w (verAt kind s)) := by
 have hm := hr.2.1
 unfold maxLen at hm
 have hbw := hR.lt
 have HP := Lib.hid hs
 have HL := Lib.hid hr.1
 have HRw := Lib.hid hR
 have HRow := Lib.hid hr
 have H7 : Hid (At7 (w.alloc (.cells #[.int .i64 0, .int .u64 0, .int .u64 0, .int .u64 0, .slice none 0 0, .slice none 0 0, .slice none 0 0] 28)) w.heap.size (.int .i64 0) (.int .u64 0) (.int .u64 0) (.int .u64 0) (.slice none 0 0) (.slice none 0 0) (.slice none 0 0)) := At7.new _ _ _ _ _ _ _ _ _
 have HR0 : Hid (Rd (w.alloc (.cells #[.int .i64 0, .int .u64 0, .int .u64 0, .int .u64 0, .slice none 0 0, .slice none 0 0, .slice none 0 0] 28)) b A n c p) := hR.alloc _
 have HM : Hid (Moved b w (w.alloc (.cells #[.int .i64 0, .int .u64 0, .int .u64 0, .int .u64 0, .slice none 0 0, .slice none 0 0, .slice none 0 0] 28))) := (Moved.refl b w).alloc hbw _
 have HRow0 : Hid (Row (w.alloc (.cells #[.int .i64 0, .int .u64 0, .int .u64 0, .int .u64 0, .slice none 0 0, .slice none 0 0, .slice none 0 0] 28)) A n l) := hr.kept ((Below.refl _ _).alloc (Nat.le_refl _) _)
 clear hR hr hs
 go_enter Tryz.func160, Tryz.ntmps160
 go_wp2_with fail
 refine (oneOf_any b A n c p l s digits _ HR0.out HRow0.out HP.out).mono ?_
 rintro e W0 ⟨rfl, hR1, hM1⟩
 replace HRow0 := Lib.hid (row_keep HRow0.out (HR0.out.keep hM1))
 replace H7 := Lib.hid (At7.moved H7.out hM1 (by omega))
 replace HM := Lib.hid (HM.out.trans hM1)
 replace HR0 := Lib.hid hR1
 have hz : w.heap.size < W0.heap.size := H7.out.1
 clear hR1 hM1
 cases hst : oneOf digits s with
 | false =>
  have HV : Hid (verAt kind s = (lackN s, s, noRng)) := by unfold Hid verAt; rw [hst]; rfl
  go_wp2_with fail
  refine (lack_any b A n c p l s _ HR0.out HRow0.out HP.out).mono ?_
  rintro e W1 ⟨rfl, hR1, hM1⟩
  have H71 := Lib.hid (At7.moved H7.out hM1 (by omega))
  have HMM := Lib.hid (HM.out.trans hM1)
  have HRR := Lib.hid hR1
  have hne := Nat.ne_of_gt hbw
  clear hR1 hM1
  obtain ⟨y1, y2, c0, c1, c2, c3, c4, c5, c6⟩ := H71.out
  go_wp2
  exact bodyPost_ret (v := .tuple #[.agg #[.int .i64 0, .int .u64 0, .int .u64 0, .int .u64 0, .slice none 0 0, .slice none 0 0, .slice none 0 0], .int .i64 (lackN s : Int)]) (by simp [results, Tryz.results160, go_sem, c0, c1, c2, c3, c4, c5, c6]) rfl (by rw [HV.out]; exact rg_end (x := zeroRV 0) hbw (Lies.zero _ _ 0) HP.out HRR.out HMM.out)
 | true =>
  have HPA : Hid (∀ W, Row W A n l → Calls Tryz.prog 171 #[.slice A n c, .int .i64 (p : Int)] W (VerPostF W ((vparse s 0).1, p + (vparse s 0).2.1, (vparse s 0).2.2))) := fun W hW => by
   have := Semver.parse_anyF A n c l (p : Int) W hW hc
   rw [vparse_at l s p HP.out] at this
   exact this
  have HQ := Lib.hid (vparse_end s 0)
  have HV : Hid (verAt kind s = if (vparse s 0).1 ≠ 0 then ((vparse s 0).1, s.drop (vparse s 0).2.1, noRng) else (0, blanks (s.drop (vparse s 0).2.1), .mk kind (vparse s 0).2.2 [])) := by
   unfold Hid verAt; rw [if_pos hst]
  have HG : Hid (∀ q v, vparse s 0 = (0, q, v) → FitV v) := fun q v h => fit_good (vparse_read h).1
  obtain ⟨⟨f, q, v⟩, hk⟩ : ∃ t, vparse s 0 = t := ⟨_, rfl⟩
  rw [hk] at HPA HV HQ HG
  simp only at HPA HV HQ
  clear hk
  go_upto_region 3 with (fail)
  go_cut [6, 7, 8] (fun v6 v7 v8 wx => ∃ bv A1 c1 B1 d1, v6 = .pointer (some ⟨bv, 0, none⟩) ∧ v7 = .int .i64 ((p + q : Nat) : Int) ∧ v8 = .int .i64 (f : Int) ∧ w.heap.size < bv ∧ v.pre.length ≤ c1 ∧ v.build.length ≤ d1 ∧ At5 wx bv (.int .u64 (v.a : Int)) (.int .u64 (v.b : Int)) (.int .u64 (v.c : Int)) (.slice A1 v.pre.length c1) (.slice B1 v.build.length d1) ∧ Rd wx b A n c p ∧ Moved b w wx ∧ SRow wx A1 v.pre.length v.pre ∧ SRow wx B1 v.build.length v.build ∧ At7 wx w.heap.size (.int .i64 0) (.int .u64 0) (.int .u64 0) (.int .u64 0) (.slice none 0 0) (.slice none 0 0) (.slice none 0 0) ∧ Fresh (w.heap.size + 1) A1 v.pre.length ∧ Fresh (w.heap.size + 1) B1 v.build.length)
  case first =>
   have H0 : Hid (Rd W0.drew b A n c p) := HR0.out.drew
   have HW0 : Hid (Row W0.drew A n l) := HRow0.out
   have HM0 : Hid (Moved b w W0.drew) := HM.out.drew
   have H70 : Hid (At7 W0.drew w.heap.size (.int .i64 0) (.int .u64 0) (.int .u64 0) (.int .u64 0) (.slice none 0 0) (.slice none 0 0) (.slice none 0 0)) := H7.out
   have hz0 : w.heap.size < W0.drew.heap.size := hz
   refine wp_region_held_drew (S := fun w' => w'.cell? ⟨b, 0, none⟩ = some (.slice A n c) ∧ w'.cell? ⟨b, 1, none⟩ = some (.int .i64 (p : Int))) (by kernel_rfl) ⟨H0.out.row, H0.out.at_⟩ (fun hHeld => ?_)
   refine tk 0 rfl (.pointer (some ⟨b, 0, none⟩)) ?_
   refine tk 1 rfl (.pointer (some ⟨b, 0, none⟩)) ?_
   refine tk 2 rfl (.pointer (some ⟨b, 0, none⟩)) ?_
   refine tk 3 rfl (.slice A n c) ?_ fun w' hS' => by have x := hS'.1; go_simp
   refine tk 4 rfl (.pointer (some ⟨b, 0, none⟩)) ?_
   refine tk 5 rfl (.pointer (some ⟨b, 0, none⟩)) ?_
   refine tk 6 rfl (.pointer (some ⟨b, 1, none⟩)) ?_
   refine tk 7 rfl (.int .i64 (p : Int)) ?_ fun w' hS' => by have x := hS'.2; go_simp
   refine wpAnyH_ready (rs := [8, 13]) (by kernel_rfl) (by simp) ?_
   refine AllReadyH.cons (o := { dst := some 24, op := Op.call { callee := Callee.value (Operand.func 171), args := #[Operand.tmp 19, Operand.tmp 23], argTypes := #[68, 3] }, type := 184, pos := _, after := _, guard := none }) rfl (fun K hK => ?_) (AllReadyH.cons (o := { dst := some 6, op := Op.alloc 25, type := 0, pos := _, after := _, guard := none }) rfl (fun K hK => ?_) AllReadyH.nil)
   ·go_simp
    refine (HPA.out _ HW0.out).mono ?_
    rintro e W1 ⟨A1, c1, B1, d1, rfl, hc1, hd1, hr1, hr2, hb1, hf1, hf2⟩
    simp only at hc1 hd1 hr1 hr2 hf1 hf2 ⊢
    have HR1 : Hid (Rd W1 b A n c p) := H0.out.kept hb1 H0.out.lt
    have HM1 : Hid (Moved b w W1) := HM0.out.below hb1 HM0.out.size hbw
    have HA1 := Lib.hid hr1
    have HB1 := Lib.hid hr2
    have H71 := Lib.hid (H70.out.kept hb1 hz0)
    have hz1 : w.heap.size < W1.heap.size := Nat.lt_of_lt_of_le hz0 hb1.size
    have HF1 : Hid (Fresh (w.heap.size + 1) A1 v.pre.length) := hf1.mono hz0
    have HF2 : Hid (Fresh (w.heap.size + 1) B1 v.build.length) := hf2.mono hz0
    clear hr1 hr2 hb1 hf1 hf2
    clear hHeld
    refine hK.out _ _ ⟨HR1.out.row, HR1.out.at_⟩ (fun hHeld => ?_)
    clear hK K
    try simp only [Act.put, p1, p2, p3]
    refine tk 9 rfl (.tuple #[.agg #[.int .u64 (v.a : Int), .int .u64 (v.b : Int), .int .u64 (v.c : Int), .slice A1 v.pre.length c1, .slice B1 v.build.length d1], .int .i64 ((p + q : Nat) : Int), .int .i64 (f : Int)]) ?_
    refine tk 10 rfl (.agg #[.int .u64 (v.a : Int), .int .u64 (v.b : Int), .int .u64 (v.c : Int), .slice A1 v.pre.length c1, .slice B1 v.build.length d1]) ?_
    refine tk 11 rfl (.int .i64 ((p + q : Nat) : Int)) ?_
    refine tk 12 rfl (.int .i64 (f : Int)) ?_
    refine cl 13 rfl fun K hK => ?_
    go_simp
    have H5 : Hid (At5 (W1.alloc (.cells #[.int .u64 (v.a : Int), .int .u64 (v.b : Int), .int .u64 (v.c : Int), .slice A1 v.pre.length c1, .slice B1 v.build.length d1] 25)) W1.heap.size (.int .u64 (v.a : Int)) (.int .u64 (v.b : Int)) (.int .u64 (v.c : Int)) (.slice A1 v.pre.length c1) (.slice B1 v.build.length d1)) := At5.new _ _ _ _ _ _ _
    have HV2 : Hid (w.heap.size < W1.heap.size) := hz1
    clear hHeld
    refine hK.out _ _ ⟨(HR1.out.alloc (.cells #[.int .u64 0, .int .u64 0, .int .u64 0, .slice none 0 0, .slice none 0 0] 25)).row, (HR1.out.alloc (.cells #[.int .u64 0, .int .u64 0, .int .u64 0, .slice none 0 0, .slice none 0 0] 25)).at_⟩ (fun hHeld => ?_)
    clear hK K
    try simp only [Act.put, p1, p2, p3]
    refine cl 14 rfl fun K hK => ?_
    go_simp
    have HR2 : Hid (Rd (W1.alloc (.cells #[.int .u64 (v.a : Int), .int .u64 (v.b : Int), .int .u64 (v.c : Int), .slice A1 v.pre.length c1, .slice B1 v.build.length d1] 25)) b A n c p) := HR1.out.alloc _
    have HM2 : Hid (Moved b w (W1.alloc (.cells #[.int .u64 (v.a : Int), .int .u64 (v.b : Int), .int .u64 (v.c : Int), .slice A1 v.pre.length c1, .slice B1 v.build.length d1] 25))) := HM1.out.alloc hbw _
    have HA2 := Lib.hid (HA1.out.kept ((Below.refl W1.heap.size W1).alloc (Nat.le_refl _) (.cells #[.int .u64 (v.a : Int), .int .u64 (v.b : Int), .int .u64 (v.c : Int), .slice A1 v.pre.length c1, .slice B1 v.build.length d1] 25)))
    have HB2 := Lib.hid (HB1.out.kept ((Below.refl W1.heap.size W1).alloc (Nat.le_refl _) (.cells #[.int .u64 (v.a : Int), .int .u64 (v.b : Int), .int .u64 (v.c : Int), .slice A1 v.pre.length c1, .slice B1 v.build.length d1] 25)))
    have H72 := Lib.hid (H71.out.kept ((Below.refl W1.heap.size W1).alloc (Nat.le_refl _) (.cells #[.int .u64 (v.a : Int), .int .u64 (v.b : Int), .int .u64 (v.c : Int), .slice A1 v.pre.length c1, .slice B1 v.build.length d1] 25)) hz1)
    clear hHeld
    refine hK.out _ _ ⟨HR2.out.row, HR2.out.at_⟩ (fun hHeld => ?_)
    clear hK K
    try simp only [Act.put, p1, p2, p3]
    refine tk 15 rfl (.int .i64 ((p + q : Nat) : Int)) ?_
    refine tk 16 rfl (.int .i64 (f : Int)) ?_
    refine wpAnyH_done (by kernel_rfl) ?_ _
    go_wp2
    go_meet
    exact ⟨_, A1, c1, B1, d1, rfl, rfl, rfl, HV2.out, hc1, hd1, H5.out, HR2.out, HM2.out, HA2.out, HB2.out, H72.out, HF1.out, HF2.out⟩
   ·go_simp
    have H5a : Hid (At5 ((W0.alloc (.cells #[.int .u64 0, .int .u64 0, .int .u64 0, .slice none 0 0, .slice none 0 0] 25)).drew) W0.heap.size (.int .u64 0) (.int .u64 0) (.int .u64 0) (.slice none 0 0) (.slice none 0 0)) := (At5.new W0 25 (.int .u64 0) (.int .u64 0) (.int .u64 0) (.slice none 0 0) (.slice none 0 0))
    have HV2 : Hid (w.heap.size < W0.heap.size) := hz
    have HRa : Hid (Rd ((W0.alloc (.cells #[.int .u64 0, .int .u64 0, .int .u64 0, .slice none 0 0, .slice none 0 0] 25)).drew) b A n c p) := (HR0.out.alloc _).drew
    have HMa : Hid (Moved b w ((W0.alloc (.cells #[.int .u64 0, .int .u64 0, .int .u64 0, .slice none 0 0, .slice none 0 0] 25)).drew)) := (HM.out.alloc hbw _).drew
    have HWa : Hid (Row ((W0.alloc (.cells #[.int .u64 0, .int .u64 0, .int .u64 0, .slice none 0 0, .slice none 0 0] 25)).drew) A n l) := row_keep (HRow0.out.kept ((Below.refl _ _).alloc (Nat.le_refl _) _)) (Keep.drew _)
    have H7a : Hid (At7 ((W0.alloc (.cells #[.int .u64 0, .int .u64 0, .int .u64 0, .slice none 0 0, .slice none 0 0] 25)).drew) w.heap.size (.int .i64 0) (.int .u64 0) (.int .u64 0) (.int .u64 0) (.slice none 0 0) (.slice none 0 0) (.slice none 0 0)) := H7.out.kept ((Below.refl W0.heap.size W0).alloc (Nat.le_refl _) (.cells #[.int .u64 0, .int .u64 0, .int .u64 0, .slice none 0 0, .slice none 0 0] 25)).drew hz
    have hza : W0.heap.size < ((W0.alloc (.cells #[.int .u64 0, .int .u64 0, .int .u64 0, .slice none 0 0, .slice none 0 0] 25)).drew).heap.size := by show _ < (W0.heap.push _).size; simp
    clear hHeld
    refine hK.out _ _ ⟨HRa.out.row, HRa.out.at_⟩ (fun hHeld => ?_)
    clear hK K
    try simp only [Act.put, p1, p2, p3]
    refine cl 8 rfl fun K hK => ?_
    go_simp
    refine (HPA.out _ HWa.out).mono ?_
    rintro e W1 ⟨A1, c1, B1, d1, rfl, hc1, hd1, hr1, hr2, hb1, hf1, hf2⟩
    simp only at hc1 hd1 hr1 hr2 hf1 hf2 ⊢
    have HR2 : Hid (Rd W1 b A n c p) := HRa.out.kept hb1 HRa.out.lt
    have HM2 : Hid (Moved b w W1) := HMa.out.below hb1 HMa.out.size hbw
    have HA2 := Lib.hid hr1
    have HB2 := Lib.hid hr2
    have H72 := Lib.hid (H7a.out.kept hb1 (Nat.lt_trans HV2.out hza))
    have H5 := Lib.hid (H5a.out.kept hb1 hza)
    have HF1 : Hid (Fresh (w.heap.size + 1) A1 v.pre.length) := hf1.mono (Nat.le_trans HV2.out (Nat.le_of_lt hza))
    have HF2 : Hid (Fresh (w.heap.size + 1) B1 v.build.length) := hf2.mono (Nat.le_trans HV2.out (Nat.le_of_lt hza))
    clear hr1 hr2 hb1 hf1 hf2
    clear hHeld
    refine hK.out _ _ ⟨HR2.out.row, HR2.out.at_⟩ (fun hHeld => ?_)
    clear hK K
    try simp only [Act.put, p1, p2, p3]
    refine tk 9 rfl (.tuple #[.agg #[.int .u64 (v.a : Int), .int .u64 (v.b : Int), .int .u64 (v.c : Int), .slice A1 v.pre.length c1, .slice B1 v.build.length d1], .int .i64 ((p + q : Nat) : Int), .int .i64 (f : Int)]) ?_
    refine tk 10 rfl (.agg #[.int .u64 (v.a : Int), .int .u64 (v.b : Int), .int .u64 (v.c : Int), .slice A1 v.pre.length c1, .slice B1 v.build.length d1]) ?_
    refine tk 11 rfl (.int .i64 ((p + q : Nat) : Int)) ?_
    refine tk 12 rfl (.int .i64 (f : Int)) ?_
    obtain ⟨hvl, hvf, g0, g1, g2, g3, g4⟩ := H5.out
    refine cl 14 rfl fun K hK => ?_
    go_simp
    obtain ⟨k1, k2, k3, k4, k5, k6⟩ := ver_block hbw (v := v) (c1 := c1) (d1 := d1) HR2.out HM2.out HA2.out HB2.out H5.out HV2.out H72.out
    have HK5 := Lib.hid k1
    have HKR := Lib.hid k2
    have HKM := Lib.hid k3
    have HKA := Lib.hid k4
    have HKB := Lib.hid k5
    have HK7 := Lib.hid k6
    clear k1 k2 k3 k4 k5 k6
    clear hHeld
    refine hK.out _ _ ⟨HKR.out.row, HKR.out.at_⟩ (fun hHeld => ?_)
    clear hK K
    try simp only [Act.put, p1, p2, p3]
    refine tk 15 rfl (.int .i64 ((p + q : Nat) : Int)) ?_
    refine tk 16 rfl (.int .i64 (f : Int)) ?_
    refine wpAnyH_done (by kernel_rfl) ?_ _
    go_wp2
    go_meet
    exact ⟨_, A1, c1, B1, d1, rfl, rfl, rfl, HV2.out, hc1, hd1, HK5.out, HKR.out, HKM.out, HKA.out, HKB.out, HK7.out, HF1.out, HF2.out⟩
  case rest =>
   obtain ⟨bv, A1, c1, B1, d1, rfl, rfl, rfl, hbv, hc1, hd1, h5, hR2, hM2, hA2, hB2, h72, hf1, hf2⟩ := hcut
   have HF1 : Hid (InS (From (w.heap.size + 1)) A1 v.pre.length) := hf1
   have HF2 : Hid (InS (From (w.heap.size + 1)) B1 v.build.length) := hf2
   clear hf1 hf2
   have HA2 := Lib.hid hA2
   have HB2 := Lib.hid hB2
   have H52 := Lib.hid h5
   have H72 := Lib.hid h72
   have HR2 := Lib.hid hR2
   have HM2 := Lib.hid hM2
   clear hA2 hB2 h5 h72 hR2 hM2
   have HPQ : Hid (Pl l (p + q) (s.drop q)) := HP.out.drop (by have := HP.out.len; have h2 := HP.out.le; have h3 := HQ.out; omega)
   have hpq : p + q ≤ n := by have := HPQ.out.le; rw [HL.out] at this; exact this
   have hne : w.heap.size ≠ b := by omega
   obtain ⟨r1, r2, r3, r4, _⟩ := HR2.out
   obtain ⟨y1, y2, c0, c1', c2, c3, c4, c5, c6⟩ := H72.out
   by_cases h0 : f = 0
   ·subst h0
    have HV2 : Hid (verAt kind s = (0, blanks (s.drop q), .mk kind v [])) := HV.out.trans (if_neg (by simp))
    have HG2 : Hid (FitV v) := HG.out q v rfl
    clear HV HG
    have HR3 : Hid (Rd (wc.setCell ⟨b, 1, none⟩ (.int .i64 ((p : Int) + (q : Int)))) b A n c (p + q)) := HR2.out.move (p + q)
    have HM3 : Hid (Moved b w (wc.setCell ⟨b, 1, none⟩ (.int .i64 ((p : Int) + (q : Int))))) := HM2.out.move _
    have HK3 : Hid (KeepS (From (w.heap.size + 1)) wc (wc.setCell ⟨b, 1, none⟩ (.int .i64 ((p : Int) + (q : Int))))) := KeepS.moved (Moved.at_ _) (fun h => by unfold From at h; omega)
    have HRow3 : Hid (Row (wc.setCell ⟨b, 1, none⟩ (.int .i64 ((p : Int) + (q : Int)))) A n l) := row_keep HRow.out (HRw.out.keep HM3.out)
    go_wp2_with fail
    refine (pass_any b A n c (p + q) 0 l (s.drop q) _ HR3.out HRow3.out HPQ.out hpq).mono ?_
    rintro e W4 ⟨rfl, q4, hq4, hR4, hM4⟩
    rw [List.drop_zero] at hq4
    have HP4 := Lib.hid hq4
    have HM4 := Lib.hid (HM3.out.trans hM4)
    have HK4 := Lib.hid (HK3.out.trans (KeepS.moved hM4 (fun h => by unfold From at h; omega)))
    have HR4 := Lib.hid hR4
    have HA4 := Lib.hid (srow_keepS HA2.out HK4.out HF1.out)
    have HB4 := Lib.hid (srow_keepS HB2.out HK4.out HF2.out)
    have H54 := Lib.hid (At5.moved (At5.moved H52.out (Moved.at_ (.int .i64 ((p : Int) + (q : Int)))) (by omega)) hM4 (by omega))
    have H74 : Hid (RAt W4 w.heap.size (zeroRV 0)) := RAt.moved (RAt.moved (x := zeroRV 0) H72.out (Moved.at_ (.int .i64 ((p : Int) + (q : Int)))) hne) hM4 hne
    clear hq4 hR4 hM4 HR3 HM3 HK3 HRow3 HR2 HM2 HA2 HB2 H52 H72 r1 r2 r3 r4 y1 y2 c0 c1' c2 c3 c4 c5 c6
    obtain ⟨y1, y2, c0, c1', c2, c3, c4, c5, c6⟩ := H74.out
    obtain ⟨_, _, g0, g1, g2, g3, g4⟩ := H54.out
    have hbe := Nat.ne_of_gt hbv
    go_wp2
    exact bodyPost_ret (v := .tuple #[.agg #[.int .i64 kind, .int .u64 (v.a : Int), .int .u64 (v.b : Int), .int .u64 (v.c : Int), .slice A1 v.pre.length c1, .slice B1 v.build.length d1, .slice none 0 0], .int .i64 0]) (by simp [results, Tryz.results160, go_sem, c0, c1', c2, c3, c4, c5, c6]) rfl (by rw [HV2.out]; exact rg_end (x := ⟨kind, v, A1, c1, B1, d1, none, 0, 0⟩) hbw (Lies.version kind v A1 c1 B1 d1 HA4.out HB4.out HF1.out HF2.out hc1 hd1 HG2.out) HP4.out HR4.out HM4.out)
   ·have hb1 : ((f : Int) != 0) = true := by simp [h0]
    have hb2 : ((f : Int) == 0) = false := by simp [h0]
    have HV2 : Hid (verAt kind s = (f, s.drop q, noRng)) := HV.out.trans (if_pos h0)
    clear h0
    go_wp2
    exact bodyPost_ret (v := .tuple #[.agg #[.int .i64 0, .int .u64 0, .int .u64 0, .int .u64 0, .slice none 0 0, .slice none 0 0, .slice none 0 0], .int .i64 (f : Int)]) (by simp [results, Tryz.results160, go_sem, c0, c1', c2, c3, c4, c5, c6]) rfl (by rw [HV2.out]; exact rg_end (x := zeroRV 0) hbw (Lies.zero _ _ 0) HPQ.out (HR2.out.move (p + q)) (HM2.out.move _))
end Go.Proofs.YtgfbflnhjpbceaaGreatDoor.Range
namespace Go.Proofs.YtgfbflnhjpbceaaGreatDoor.Range
open Go.RowKit Num Ident Semver

theorem ofVersion_any (k : Int) (w : World) : Calls Tryz.prog 90 #[.int .i64 k] w fun e w' => e = .returned (.bool (ofVersion k)) ∧ w' = w := by
 unfold ofVersion
 go_enter Tryz.func90, Tryz.ntmps90
 by_cases h1 : 1 ≤ k
 ·by_cases h2 : k ≤ 8
  ·go_wp2; go_ret
   exact ⟨by simp [h1, h2], rfl⟩
  ·go_wp2; go_ret
   exact ⟨by simp [h2], rfl⟩
 ·go_wp2; go_ret
  exact ⟨by simp; omega, rfl⟩
theorem bracketed_any (o k : Int) (w : World) : Calls Tryz.prog 55 #[.int .i64 o, .int .i64 k] w fun e w' => e = .returned (.bool (bracketed o k)) ∧ w' = w := by
 unfold bracketed
 go_enter Tryz.func55, Tryz.ntmps55
 by_cases h1 : k = 10
 ·go_wp2; go_ret
  exact ⟨by simp [h1], rfl⟩
 ·by_cases h2 : k = 9
  ·by_cases h3 : o = 10
   ·go_wp2; go_ret
    exact ⟨by simp [h2, h3], rfl⟩
   ·go_wp2; go_ret
    exact ⟨by simp [h2, h3], rfl⟩
  ·go_wp2; go_ret
   exact ⟨by simp [h1, h2], rfl⟩
theorem opens_any (o k : Int) (w : World) : Calls Tryz.prog 78 #[.int .i64 o, .int .i64 k] w fun e w' => e = .returned (.int .i64 (opens o k : Int)) ∧ w' = w := by
 have HO : Hid (opens o k = (if o = 11 then 1 else 0) + (if bracketed o k = true then 1 else 0)) := rfl
 go_enter Tryz.func78, Tryz.ntmps78
 by_cases h1 : o = 11
 ·subst h1
  go_wp2_with fail
  refine (bracketed_any 11 k _).mono ?_
  rintro e w' ⟨rfl, rfl⟩
  cases hb : bracketed 11 k with
  | true => go_wp2; go_ret; exact ⟨by rw [HO.out, hb]; rfl, rfl⟩
  | false => go_wp2; go_ret; exact ⟨by rw [HO.out, hb]; rfl, rfl⟩
 ·go_wp2_with fail
  refine (bracketed_any o k _).mono ?_
  rintro e w' ⟨rfl, rfl⟩
  cases hb : bracketed o k with
  | true => go_wp2; go_ret; exact ⟨by rw [HO.out, hb, if_neg h1]; rfl, rfl⟩
  | false => go_wp2; go_ret; exact ⟨by rw [HO.out, hb, if_neg h1]; rfl, rfl⟩
theorem within_any (b o : Nat) (x : RV) (w : World) (hc : CellsAt w b o x) (hn : x.n ≤ x.e) (hk : (x.kind = 9 ∨ x.kind = 10) ∨ x.kind = 11 ∧ x.n = 1 ∨ (x.kind ≠ 9 ∧ x.kind ≠ 10 ∧ x.kind ≠ 11) ∧ x.n = 0) :
  Calls Tryz.prog 53 #[.pointer (some ⟨b, o, none⟩)] w fun e w' => (∃ A c, e = .returned (.slice A x.n c) ∧ x.n ≤ c ∧ (0 < x.n → A = x.L)) ∧ Below w.heap.size w w' := by
 obtain ⟨x0, x1, x2, x3, x4, x5, x6⟩ := hc.cells
 obtain ⟨kind, v, A, c, B, d, L, n, e⟩ := x
 simp only at x0 x1 x2 x3 x4 x5 x6 hn hk ⊢
 go_enter Tryz.func53, Tryz.ntmps53
 rcases hk with (rfl | rfl) | ⟨rfl, rfl⟩ | ⟨⟨h1, h2, h3⟩, rfl⟩
 ·go_wp2; go_ret
  exact ⟨⟨L, e, rfl, hn, fun _ => rfl⟩, Below.refl _ _⟩
 ·go_wp2; go_ret
  exact ⟨⟨L, e, rfl, hn, fun _ => rfl⟩, Below.refl _ _⟩
 ·go_upto_region 6 with (fail)
  go_region
  go_wp2; go_ret
  exact ⟨⟨L, e, rfl, hn, fun _ => rfl⟩, (Below.refl w.heap.size w).drew⟩
 ·go_wp2; go_ret
  exact ⟨⟨none, 0, rfl, Nat.le_refl _, fun h => absurd h (Nat.lt_irrefl _)⟩, Below.refl _ _⟩
theorem ahead_any (g o : Nat) (b p : Nat) (outer k : Int) (i : Nat) (w : World) (h0 : w.cell? ⟨g, o, none⟩ = some (.pointer (some ⟨b, p, none⟩))) (h1 : w.cell? ⟨g, o + 1, none⟩ = some (.int .i64 (i : Int))) (h2 : w.cell? ⟨b, p, none⟩ = some (.int .i64 outer)) :
  Calls Tryz.prog 54 #[.pointer (some ⟨g, o, none⟩), .int .i64 k] w fun e w' => e = .returned (.string (mk (aheadR outer k i))) ∧ w' = w := by
 unfold aheadR
 go_enter Tryz.func54, Tryz.ntmps54
 by_cases a1 : outer = 11 ∧ k = 5
 ·obtain ⟨rfl, rfl⟩ := a1
  go_wp2; go_ret
  exact ⟨rfl, rfl⟩
 ·rw [if_neg a1]
  have a2 : outer = 11 → ¬ k = 5 := fun h h' => a1 ⟨h, h'⟩
  clear a1
  by_cases a3 : i = 0
  ·subst a3
   by_cases a4 : outer = 11
   ·have a5 := a2 a4
    go_wp2; go_ret
    exact ⟨rfl, rfl⟩
   ·go_wp2; go_ret
    exact ⟨rfl, rfl⟩
  ·rw [if_neg a3]
   have a3' : ¬ (i : Int) = 0 := by omega
   by_cases a4 : outer = 11
   ·have a5 := a2 a4
    subst a4
    go_wp2; go_ret
    exact ⟨rfl, rfl⟩
   ·by_cases a6 : outer = 10
    ·subst a6
     go_wp2; go_ret
     exact ⟨rfl, rfl⟩
    ·rw [if_neg a6]
     go_wp2; go_ret
     exact ⟨rfl, rfl⟩
end Go.Proofs.YtgfbflnhjpbceaaGreatDoor.Range
