/-
  Versions read from any bytes at any place (semver.readRow, semver.Parse). Condition: the slice reads as the list of bytes l.
-/
import Derived.Test.YtolkcblkciafiaaDoorSvCore
import Derived.Test.YtolkcblkciafiaaDoorIdRow
namespace Go.Proofs.YtolkcblkciafiaaDoor.Semver
open Go.RowKit Num Ident

set_option maxRecDepth 100000 in
set_option maxHeartbeats 800000 in
theorem readRow_pre (A : Option Addr) (n c : Nat) (l : List UInt8) (p : Nat) (w : World) (h : Row w A n l) (hc : n ≤ c) (hp : p ≤ n) :
    Calls Tryd.prog 69 #[.slice A n c, .int .i64 p, .int .u8 45] w (RowPostF w (rowAt l p 45)) := by
  have hm := h.2.1
  unfold maxLen at hm
  have HR := Lib.hid h
  have HL := Lib.hid h.1
  have HC := Lib.hid h.2.2
  clear h
  by_cases h0 : p = n
  · have HF := Lib.hid (rowAt_none (l := l) (p := p) (m := 45) (.inl (by rw [HL.out]; exact h0)))
    subst h0
    have hb : ((p : Int) == (p : Int)) = true := by simp
    rw [HF.out]
    go_enter Tryd.func69, Tryd.ntmps69
    go_wp2
    go_ret3
    exact ⟨none, 0, rfl, Nat.le_refl _, SRow.none_ _ _, Below.refl _ _, Fresh.none_ _ _⟩
  · have hlt : p < n := by omega
    have hb : ((p : Int) == (n : Int)) = false := by simp; omega
    have H0 : Hid (p ≠ l.length) := by unfold Hid; rw [HL.out]; exact h0
    obtain ⟨b, o, rfl, hbl, hcell⟩ := HC.out (by omega)
    have hx := hcell p hlt
    clear hcell HC h0
    have hbd := byteAt_bd l p
    have HN := Lib.hid (fun h => rowAt_none (l := l) (p := p) (m := 45) (.inr h))
    have HY := Lib.hid (fun h => rowAt_some (l := l) (p := p) (m := 45) H0.out h)
    generalize byteAt l p = x at hx hbd HN HY
    by_cases hxm : x = 45
    · have HF := Lib.hid (HY.out (by exact hxm))
      have h1 : (x != 45) = false := by simp [hxm]
      clear hxm HN HY
      rw [HF.out]
      have HQ := Lib.hid (fun W hW => row_anyF (some ⟨b, o, none⟩) n c l ((p + 1 : Nat) : Int) true W hW hc)
      rw [show ((45 : Nat) == 45) = true from rfl]
      obtain ⟨⟨E, N, xs⟩, hr⟩ : ∃ t, row l ((p + 1 : Nat) : Int) true = t := ⟨_, rfl⟩
      have HE := Lib.hid (row_end l (p + 1) true (by rw [HL.out]; exact hlt))
      rw [hr] at HQ HE ⊢
      clear hr HF
      have hE : p + 1 + N ≤ n := by have := HE.out; rw [HL.out] at this; exact this
      go_enter Tryd.func69, Tryd.ntmps69
      go_wp2_with fail
      refine (HQ.out _ HR.out).mono ?_
      rintro e w1 ⟨A1, c1, rfl, hc1, hr1, hb1, hf1⟩
      simp only at hc1 hr1 hf1 ⊢
      have HR1 := Lib.hid hr1
      have HB1 := Lib.hid hb1
      clear hr1 hb1
      go_wp2
      go_ret3
      exact ⟨A1, c1, by simp, hc1, HR1.out, HB1.out, hf1⟩
    · have HF := Lib.hid (HN.out (by exact hxm))
      have h1 : (x != 45) = true := by simp [hxm]
      clear hxm HN HY
      rw [HF.out]
      go_enter Tryd.func69, Tryd.ntmps69
      go_wp2
      go_ret3
      exact ⟨none, 0, rfl, Nat.le_refl _, SRow.none_ _ _, Below.refl _ _, Fresh.none_ _ _⟩

set_option maxRecDepth 100000 in
set_option maxHeartbeats 800000 in
theorem readRow_build (A : Option Addr) (n c : Nat) (l : List UInt8) (p : Nat) (w : World) (h : Row w A n l) (hc : n ≤ c) (hp : p ≤ n) :
    Calls Tryd.prog 69 #[.slice A n c, .int .i64 p, .int .u8 43] w (RowPostF w (rowAt l p 43)) := by
  have hm := h.2.1
  unfold maxLen at hm
  have HR := Lib.hid h
  have HL := Lib.hid h.1
  have HC := Lib.hid h.2.2
  clear h
  by_cases h0 : p = n
  · have HF := Lib.hid (rowAt_none (l := l) (p := p) (m := 43) (.inl (by rw [HL.out]; exact h0)))
    subst h0
    have hb : ((p : Int) == (p : Int)) = true := by simp
    rw [HF.out]
    go_enter Tryd.func69, Tryd.ntmps69
    go_wp2
    go_ret3
    exact ⟨none, 0, rfl, Nat.le_refl _, SRow.none_ _ _, Below.refl _ _, Fresh.none_ _ _⟩
  · have hlt : p < n := by omega
    have hb : ((p : Int) == (n : Int)) = false := by simp; omega
    have H0 : Hid (p ≠ l.length) := by unfold Hid; rw [HL.out]; exact h0
    obtain ⟨b, o, rfl, hbl, hcell⟩ := HC.out (by omega)
    have hx := hcell p hlt
    clear hcell HC h0
    have hbd := byteAt_bd l p
    have HN := Lib.hid (fun h => rowAt_none (l := l) (p := p) (m := 43) (.inr h))
    have HY := Lib.hid (fun h => rowAt_some (l := l) (p := p) (m := 43) H0.out h)
    generalize byteAt l p = x at hx hbd HN HY
    by_cases hxm : x = 43
    · have HF := Lib.hid (HY.out (by exact hxm))
      have h1 : (x != 43) = false := by simp [hxm]
      clear hxm HN HY
      rw [HF.out]
      have HQ := Lib.hid (fun W hW => row_anyF (some ⟨b, o, none⟩) n c l ((p + 1 : Nat) : Int) false W hW hc)
      rw [show ((43 : Nat) == 45) = false from rfl]
      obtain ⟨⟨E, N, xs⟩, hr⟩ : ∃ t, row l ((p + 1 : Nat) : Int) false = t := ⟨_, rfl⟩
      have HE := Lib.hid (row_end l (p + 1) false (by rw [HL.out]; exact hlt))
      rw [hr] at HQ HE ⊢
      clear hr HF
      have hE : p + 1 + N ≤ n := by have := HE.out; rw [HL.out] at this; exact this
      go_enter Tryd.func69, Tryd.ntmps69
      go_wp2_with fail
      refine (HQ.out _ HR.out).mono ?_
      rintro e w1 ⟨A1, c1, rfl, hc1, hr1, hb1, hf1⟩
      simp only at hc1 hr1 hf1 ⊢
      have HR1 := Lib.hid hr1
      have HB1 := Lib.hid hb1
      clear hr1 hb1
      go_wp2
      go_ret3
      exact ⟨A1, c1, by simp, hc1, HR1.out, HB1.out, hf1⟩
    · have HF := Lib.hid (HN.out (by exact hxm))
      have h1 : (x != 43) = true := by simp [hxm]
      clear hxm HN HY
      rw [HF.out]
      go_enter Tryd.func69, Tryd.ntmps69
      go_wp2
      go_ret3
      exact ⟨none, 0, rfl, Nat.le_refl _, SRow.none_ _ _, Below.refl _ _, Fresh.none_ _ _⟩

/-- What Parse leaves: the version, the place, the error's number. -/
def VerPost (w : World) (r : Out) (e : Ending) (w' : World) : Prop :=
  ∃ A c B d, e = .returned (.tuple #[.agg #[.int .u64 (r.2.2.a : Int), .int .u64 (r.2.2.b : Int), .int .u64 (r.2.2.c : Int), .slice A r.2.2.pre.length c, .slice B r.2.2.build.length d], .int .i64 (r.2.1 : Int), .int .i64 (r.1 : Int)]) ∧
    r.2.2.pre.length ≤ c ∧ r.2.2.build.length ≤ d ∧ SRow w' A r.2.2.pre.length r.2.2.pre ∧ SRow w' B r.2.2.build.length r.2.2.build ∧ Below w.heap.size w w'
theorem VerPost.bad {w w' : World} {q f : Nat} (hb : Below w.heap.size w w') : VerPost w (f, q, noVer) (.returned (.tuple #[.agg #[.int .u64 0, .int .u64 0, .int .u64 0, .slice none 0 0, .slice none 0 0], .int .i64 (q : Int), .int .i64 (f : Int)])) w' :=
  ⟨none, 0, none, 0, rfl, Nat.le_refl _, Nat.le_refl _, SRow.none_ _ _, SRow.none_ _ _, hb⟩
/-- The same, and that the rows' blocks are new. -/
def VerPostF (w : World) (r : Out) (e : Ending) (w' : World) : Prop :=
  ∃ A c B d, e = .returned (.tuple #[.agg #[.int .u64 (r.2.2.a : Int), .int .u64 (r.2.2.b : Int), .int .u64 (r.2.2.c : Int), .slice A r.2.2.pre.length c, .slice B r.2.2.build.length d], .int .i64 (r.2.1 : Int), .int .i64 (r.1 : Int)]) ∧
    r.2.2.pre.length ≤ c ∧ r.2.2.build.length ≤ d ∧ SRow w' A r.2.2.pre.length r.2.2.pre ∧ SRow w' B r.2.2.build.length r.2.2.build ∧ Below w.heap.size w w' ∧ Fresh w.heap.size A r.2.2.pre.length ∧ Fresh w.heap.size B r.2.2.build.length
theorem VerPostF.drop {w w' : World} {r : Out} {e : Ending} (h : VerPostF w r e w') : VerPost w r e w' := by
  obtain ⟨A, c, B, d, h1, h2, h3, h4, h5, h6, _⟩ := h
  exact ⟨A, c, B, d, h1, h2, h3, h4, h5, h6⟩
theorem VerPostF.bad {w w' : World} {q f : Nat} (hb : Below w.heap.size w w') : VerPostF w (f, q, noVer) (.returned (.tuple #[.agg #[.int .u64 0, .int .u64 0, .int .u64 0, .slice none 0 0, .slice none 0 0], .int .i64 (q : Int), .int .i64 (f : Int)])) w' :=
  ⟨none, 0, none, 0, rfl, Nat.le_refl _, Nat.le_refl _, SRow.none_ _ _, SRow.none_ _ _, hb, Fresh.none_ _ _, Fresh.none_ _ _⟩

set_option maxRecDepth 100000 in
set_option maxHeartbeats 800000 in
theorem parse_out (A : Option Addr) (n c : Nat) (l : List UInt8) (p : Int) (w : World) (h : Row w A n l) (ho : p < 0 ∨ (n : Int) < p) :
    Calls Tryd.prog 56 #[.slice A n c, .int .i64 p] w (VerPostF w (vparse l p)) := by
  have HE : Hid (vparse l p = (1, 0, noVer)) := by
    unfold Hid vparse; rw [if_pos (by rw [h.1]; exact ho)]
  rw [HE.out]
  clear h HE
  by_cases h0 : p < 0
  · go_enter Tryd.func56, Tryd.ntmps56
    go_wp2
    exact bodyPost_ret (v := .tuple #[.agg #[.int .u64 0, .int .u64 0, .int .u64 0, .slice none 0 0, .slice none 0 0], .int .i64 0, .int .i64 1]) (by simp [results, Tryd.results56, go_sem]) rfl (VerPostF.bad (q := 0) (f := 1) ((Below.refl _ _).alloc (Nat.le_refl _) _))
  · have h1 : (n : Int) < p := by omega
    clear ho
    go_enter Tryd.func56, Tryd.ntmps56
    go_wp2
    exact bodyPost_ret (v := .tuple #[.agg #[.int .u64 0, .int .u64 0, .int .u64 0, .slice none 0 0, .slice none 0 0], .int .i64 0, .int .i64 1]) (by simp [results, Tryd.results56, go_sem]) rfl (VerPostF.bad (q := 0) (f := 1) ((Below.refl _ _).alloc (Nat.le_refl _) _))

set_option maxRecDepth 100000 in
set_option maxHeartbeats 1600000 in
theorem parse_in (A : Option Addr) (n c : Nat) (l : List UInt8) (p : Nat) (w : World) (h : Row w A n l) (hc : n ≤ c) (hp : p ≤ n) :
    Calls Tryd.prog 56 #[.slice A n c, .int .i64 p] w (VerPostF w (vparse l p)) := by
  have hm := h.2.1
  unfold maxLen at hm
  have HR := Lib.hid h
  have HL := Lib.hid h.1
  have HE : Hid (vparse l p = inside l p) := by
    unfold Hid vparse; rw [if_neg (by rw [h.1]; omega), Int.toNat_natCast]
  rw [HE.out]
  clear h HE
  have hp0 : ¬ (p : Int) < 0 := by omega
  have hp1 : ¬ n < p := by omega
  have HB0 : Hid (Below w.heap.size w (w.alloc (.cells #[.int .u64 0, .int .u64 0, .int .u64 0, .slice none 0 0, .slice none 0 0] 26))) := (Below.refl _ _).alloc (Nat.le_refl _) _
  obtain ⟨⟨f, q, x, y, z⟩, hk⟩ : ∃ t, core l p = t := ⟨_, rfl⟩
  have HQ := Lib.hid (core_end l p (by rw [HL.out]; exact hp))
  have HI : Hid (inside l p = if f ≠ 0 then (f, q, noVer) else tail1 l x y z q) := by unfold Hid inside; rw [hk]
  have HO : Hid (coreOut (core l p) = .tuple #[.agg #[.int .u64 (x : Int), .int .u64 (y : Int), .int .u64 (z : Int)], .int .i64 (q : Int), .int .i64 (f : Int)]) := by unfold Hid; rw [hk]; rfl
  rw [hk] at HQ
  have hq : q ≤ n := by have := HQ.out; rw [HL.out] at this; exact this
  clear hk HQ
  go_enter Tryd.func56, Tryd.ntmps56
  go_wp2_with fail
  refine (readCore_any _ _ _ l p _ (HR.out.kept HB0.out) hc hp).mono ?_
  rw [HO.out]
  rintro e w1 ⟨rfl, hb1⟩
  have hz1 : w.heap.size + 1 ≤ w1.heap.size := by have := hb1.size; simpa using this
  have HV1 : Hid (At5 w1 w.heap.size (.int .u64 0) (.int .u64 0) (.int .u64 0) (.slice none 0 0) (.slice none 0 0)) := (At5.new w 26 _ _ _ _ _).kept hb1 (by simp)
  have HC1 : Hid (At3 (w1.alloc (.cells #[.int .u64 (x : Int), .int .u64 (y : Int), .int .u64 (z : Int)] 66)) w1.heap.size (.int .u64 (x : Int)) (.int .u64 (y : Int)) (.int .u64 (z : Int))) := At3.new w1 66 _ _ _
  have HB1w : Hid (Below w.heap.size w w1) := HB0.out.trans (hb1.mono (by simp))
  have HB1 : Hid (Below w.heap.size w (w1.alloc (.cells #[.int .u64 (x : Int), .int .u64 (y : Int), .int .u64 (z : Int)] 66))) := (HB0.out.trans (hb1.mono (by simp))).alloc (by omega) _
  clear hb1
  by_cases h0 : f = 0
  · subst h0
    have HI2 : Hid (inside l p = tail1 l x y z q) := HI.out.trans (if_neg (by simp))
    clear HI
    have HP2 := Lib.hid (fun W hW => readRow_pre A n c l q W hW hc hq)
    have HQ := Lib.hid (rowAt_end l q 45 (by rw [HL.out]; exact hq))
    have HT : Hid (tail1 l x y z q = if (rowAt l q 45).1 ≠ 0 then ((rowAt l q 45).1, (rowAt l q 45).2.1, noVer) else tail2 l x y z (rowAt l q 45).2.2 (rowAt l q 45).2.1) := rfl
    obtain ⟨⟨f, q2, xs⟩, hr⟩ : ∃ t, rowAt l q 45 = t := ⟨_, rfl⟩
    rw [hr] at HP2 HQ HT
    clear hr
    have hq2 : q2 ≤ n := by have := HQ.out; rw [HL.out] at this; exact this
    go_wp2_with fail
    refine (HP2.out _ (HR.out.kept HB1.out)).mono ?_
    rintro e w2 ⟨A2, c2, rfl, hc2, hr2, hb2, hf2⟩
    simp only at hc2 hr2 hf2 ⊢
    replace hf2 := hf2.mono (B' := w.heap.size) (by simp; omega)
    have hz2 : w1.heap.size + 1 ≤ w2.heap.size := by have := hb2.size; simpa using this
    have HB2 := Lib.hid (HB1.out.trans (hb2.mono (by simp; omega)))
    have HV2 : Hid (At5 w2 w.heap.size (.int .u64 0) (.int .u64 0) (.int .u64 0) (.slice none 0 0) (.slice none 0 0)) := (HV1.out.kept ((Below.refl _ _).alloc (Nat.le_refl _) _) (by omega)).kept hb2 (by simp; omega)
    have HC2 := Lib.hid (HC1.out.kept hb2 (by simp))
    have HR2 := Lib.hid hr2
    clear hb2 hr2 HV1 HC1
    by_cases h0 : f = 0
    · subst h0
      have HI3 : Hid (inside l p = tail2 l x y z xs q2) := HI2.out.trans (HT.out.trans (if_neg (by simp)))
      clear HT HI2
      have HP3 := Lib.hid (fun W hW => readRow_build A n c l q2 W hW hc hq2)
      have HQ3 := Lib.hid (rowAt_end l q2 43 (by rw [HL.out]; exact hq2))
      have HT : Hid (tail2 l x y z xs q2 = if (rowAt l q2 43).1 ≠ 0 then ((rowAt l q2 43).1, (rowAt l q2 43).2.1, noVer) else (0, (rowAt l q2 43).2.1, ⟨x, y, z, xs, (rowAt l q2 43).2.2⟩)) := rfl
      obtain ⟨⟨f, q3, ys⟩, hr⟩ : ∃ t, rowAt l q2 43 = t := ⟨_, rfl⟩
      rw [hr] at HP3 HQ3 HT
      clear hr
      go_wp2_with fail
      refine (HP3.out _ (HR.out.kept HB2.out)).mono ?_
      rintro e w3 ⟨A3, c3, rfl, hc3, hr3, hb3, hf3⟩
      simp only at hc3 hr3 hf3 ⊢
      replace hf3 := hf3.mono (B' := w.heap.size) (by omega)
      have hz3 : w2.heap.size ≤ w3.heap.size := hb3.size
      have HB3 := Lib.hid (HB2.out.trans (hb3.mono (by omega)))
      have HV3 := Lib.hid (HV2.out.kept hb3 (by omega))
      have HC3 := Lib.hid (HC2.out.kept hb3 (by omega))
      have HR3 := Lib.hid hr3
      have HR2' := Lib.hid (HR2.out.kept hb3)
      clear hb3 hr3 HV2 HC2
      by_cases h0 : f = 0
      · subst h0
        have HI4 : Hid (inside l p = (0, q3, ⟨x, y, z, xs, ys⟩)) := HI3.out.trans (HT.out.trans (if_neg (by simp)))
        clear HT HI3
        obtain ⟨hvl, hvf, hv0, hv1, hv2, hv3, hv4⟩ := HV3.out
        obtain ⟨hcl, hcf, hk0, hk1, hk2⟩ := HC3.out
        have HA := Lib.hid (HR2'.out.set5 hv0 hv1 hv2 hv3 hv4 (by simp) (by simp) (by simp) (by simp) (by simp) (.int .u64 (x : Int)) (.int .u64 (y : Int)) (.int .u64 (z : Int)) (.slice A2 xs.length c2) (.slice A3 ys.length c3))
        have HB := Lib.hid (HR3.out.set5 hv0 hv1 hv2 hv3 hv4 (by simp) (by simp) (by simp) (by simp) (by simp) (.int .u64 (x : Int)) (.int .u64 (y : Int)) (.int .u64 (z : Int)) (.slice A2 xs.length c2) (.slice A3 ys.length c3))
        go_wp2
        exact bodyPost_ret (v := .tuple #[.agg #[.int .u64 (x : Int), .int .u64 (y : Int), .int .u64 (z : Int), .slice A2 xs.length c2, .slice A3 ys.length c3], .int .i64 (q3 : Int), .int .i64 0]) (by simp [results, Tryd.results56, go_sem, hv0, hv1, hv2, hv3, hv4]) rfl (by rw [HI4.out]; exact ⟨A2, c2, A3, c3, rfl, hc2, hc3, HA.out, HB.out, (((((HB3.out.setCell (by simp) _).setCell (by simp) _).setCell (by simp) _).setCell (by simp) _).setCell (by simp) _), hf2, hf3⟩)
      · have HI4 : Hid (inside l p = (f, q3, noVer)) := HI3.out.trans (HT.out.trans (if_pos h0))
        clear HT HI3
        have hb1 : ((f : Int) != 0) = true := by simp [h0]
        have hb2 : ((f : Int) == 0) = false := by simp [h0]
        clear h0
        obtain ⟨hvl, hvf, hv0, hv1, hv2, hv3, hv4⟩ := HV3.out
        have hne := Nat.ne_of_lt hvl
        go_wp2
        exact bodyPost_ret (v := .tuple #[.agg #[.int .u64 0, .int .u64 0, .int .u64 0, .slice none 0 0, .slice none 0 0], .int .i64 (q3 : Int), .int .i64 (f : Int)]) (by simp [results, Tryd.results56, go_sem, hv0, hv1, hv2, hv3, hv4]) rfl (by rw [HI4.out]; exact VerPostF.bad (((((HB3.out.setCell (by simp) _).setCell (by simp) _).setCell (by simp) _).setCell (by simp) _).setCell (by simp) _))
    · have HI3 : Hid (inside l p = (f, q2, noVer)) := HI2.out.trans (HT.out.trans (if_pos h0))
      clear HT HI2
      have hb1 : ((f : Int) != 0) = true := by simp [h0]
      have hb2 : ((f : Int) == 0) = false := by simp [h0]
      clear h0
      obtain ⟨hvl, hvf, hv0, hv1, hv2, hv3, hv4⟩ := HV2.out
      have hne := Nat.ne_of_lt hvl
      go_wp2
      exact bodyPost_ret (v := .tuple #[.agg #[.int .u64 0, .int .u64 0, .int .u64 0, .slice none 0 0, .slice none 0 0], .int .i64 (q2 : Int), .int .i64 (f : Int)]) (by simp [results, Tryd.results56, go_sem, hv0, hv1, hv2, hv3, hv4]) rfl (by rw [HI3.out]; exact VerPostF.bad (((((HB2.out.setCell (by simp) _).setCell (by simp) _).setCell (by simp) _).setCell (by simp) _).setCell (by simp) _))
  · have HI2 : Hid (inside l p = (f, q, noVer)) := HI.out.trans (if_pos h0)
    clear HI
    have hb1 : ((f : Int) != 0) = true := by simp [h0]
    have hb2 : ((f : Int) == 0) = false := by simp [h0]
    clear h0
    obtain ⟨hvl, hvf, hv0, hv1, hv2, hv3, hv4⟩ := HV1.out
    have hne := Nat.ne_of_lt hvl
    go_wp2
    exact bodyPost_ret (v := .tuple #[.agg #[.int .u64 0, .int .u64 0, .int .u64 0, .slice none 0 0, .slice none 0 0], .int .i64 (q : Int), .int .i64 (f : Int)]) (by simp [results, Tryd.results56, go_sem, hv0, hv1, hv2, hv3, hv4, hvl]) rfl (by rw [HI2.out]; exact VerPostF.bad ((((((HB1w.out.setCell (by simp) _).setCell (by simp) _).setCell (by simp) _).setCell (by simp) _).setCell (by simp) _).alloc (by simp; omega) _))

theorem parse_anyF (A : Option Addr) (n c : Nat) (l : List UInt8) (p : Int) (w : World) (h : Row w A n l) (hc : n ≤ c) :
    Calls Tryd.prog 56 #[.slice A n c, .int .i64 p] w (VerPostF w (vparse l p)) := by
  by_cases ho : p < 0 ∨ (n : Int) < p
  · exact parse_out A n c l p w h ho
  · obtain ⟨k, rfl⟩ := Int.eq_ofNat_of_zero_le (show 0 ≤ p by omega)
    exact parse_in A n c l k w h hc (by omega)
theorem parse_any (A : Option Addr) (n c : Nat) (l : List UInt8) (p : Int) (w : World) (h : Row w A n l) (hc : n ≤ c) :
    Calls Tryd.prog 56 #[.slice A n c, .int .i64 p] w (VerPost w (vparse l p)) := (parse_anyF A n c l p w h hc).mono fun _ _ h => h.drop

end Go.Proofs.YtolkcblkciafiaaDoor.Semver
