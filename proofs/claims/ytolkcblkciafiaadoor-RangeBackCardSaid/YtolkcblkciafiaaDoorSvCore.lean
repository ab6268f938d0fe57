/-
  A version's three numbers, read at a place of any bytes (semver.pointFault, semver.readCore). Condition: the slice reads as the list of bytes l.
-/
import Derived.Test.YtolkcblkciafiaaDoorNumWalks
import Derived.Test.YtolkcblkciafiaaDoorSvMath
namespace Go.Proofs.YtolkcblkciafiaaDoor.Semver
open Go.RowKit Num Ident

set_option maxRecDepth 100000 in
set_option maxHeartbeats 400000 in
theorem point_any (A : Option Addr) (n c : Nat) (l : List UInt8) (q : Nat) (w : World) (h : Row w A n l) (hq : q ≤ n) :
    Calls Tryd.prog 80 #[.slice A n c, .int .i64 q] w fun e w' => e = .returned (.int .i64 (point l q)) ∧ w = w' := by
  obtain ⟨hl, hm, hc⟩ := h
  unfold maxLen at hm
  have HC := Lib.hid hc; clear hc
  have HL := Lib.hid hl; clear hl
  by_cases h0 : q = n
  · have HF := Lib.hid (point_end (l := l) (q := q) (by rw [HL.out]; exact h0))
    subst h0
    have hb : ((q : Int) == (q : Int)) = true := by simp
    go_enter Tryd.func80, Tryd.ntmps80
    go_wp2
    go_ret
    exact ⟨by rw [HF.out]; rfl, rfl⟩
  · have hlt : q < n := by omega
    have hb : ((q : Int) == (n : Int)) = false := by simp; omega
    obtain ⟨b, o, rfl, hbl, hcell⟩ := HC.out (by omega)
    have hx := hcell q hlt
    clear hcell HC
    have HN := Lib.hid (point_no (l := l) (q := q) (by rw [HL.out]; exact h0))
    have HY := Lib.hid (point_yes (l := l) (q := q) (by rw [HL.out]; exact h0))
    have hbd := byteAt_bd l q
    generalize byteAt l q = x at hx hbd HN HY
    clear h0
    by_cases h46 : x = 46
    · have HF := Lib.hid (HY.out h46)
      have h1 : (x != 46) = false := by simp [h46]
      clear h46 HN HY
      go_enter Tryd.func80, Tryd.ntmps80
      go_wp2
      go_ret
      exact ⟨by rw [HF.out]; rfl, rfl⟩
    · have HF := Lib.hid (HN.out h46)
      have h1 : (x != 46) = true := by simp [h46]
      clear h46 HN HY
      go_enter Tryd.func80, Tryd.ntmps80
      go_wp2
      go_ret
      exact ⟨by rw [HF.out]; rfl, rfl⟩

/-- What readCore answers. -/
def coreOut (k : Core) : Value := .tuple #[.agg #[.int .u64 (k.2.2.1 : Int), .int .u64 (k.2.2.2.1 : Int), .int .u64 (k.2.2.2.2 : Int)], .int .i64 (k.2.1 : Int), .int .i64 (k.1 : Int)]

/-- How far the numbers have been read: at place q, i of them. -/
def CoreAt (w : World) (l : List UInt8) (p q i : Nat) (w' : World) : Prop :=
  (i = 0 ∧ w' = (w.alloc (.cells #[.int .u64 0, .int .u64 0, .int .u64 0] 66)) ∧ core l q = core l p) ∨
  (i = 1 ∧ ∃ x : Nat, w' = (w.alloc (.cells #[.int .u64 (x : Int), .int .u64 0, .int .u64 0] 66)) ∧ core1 l x q = core l p) ∨
  (i = 2 ∧ ∃ x y : Nat, w' = (w.alloc (.cells #[.int .u64 (x : Int), .int .u64 (y : Int), .int .u64 0] 66)) ∧ core2 l x y q = core l p)
def CoreJ (w : World) (A : Option Addr) (n c : Nat) (l : List UInt8) (p : Nat) (a' : Act) (w' : World) : Prop :=
  ∃ (q i : Nat) (u8 u9 u10 u11 u12 u13 u14 u15 u16 u17 u18 u19 u20 u21 u22 u23 u24 u25 u26 u27 u28 u29 u30 u31 u32 u33 u34 u35 u36 u37 u38 u39 u40 u41 u42 u43 : Value), q ≤ n ∧ CoreAt w l p q i w' ∧
    a' = { tmps := #[.slice A n c, .int .i64 q, undef, undef, .pointer (some ⟨w.heap.size, 0, none⟩), .int .i64 0, .int .i64 0, .int .i64 i, u8, u9, u10, u11, u12, u13, u14, u15, u16, u17, u18, u19, u20, u21, u22, u23, u24, u25, u26, u27, u28, u29, u30, u31, u32, u33, u34, u35, u36, u37, u38, u39, u40, u41, u42, u43], defers := [] }
def CoreM (a' : Act) (_ : World) : Nat := 3 - (intOf (a'.tmps.getD 7 undef)).toNat

set_option maxRecDepth 100000 in
set_option maxHeartbeats 1600000 in
theorem readCore_any (A : Option Addr) (n c : Nat) (l : List UInt8) (p : Nat) (w : World) (h : Row w A n l) (hc : n ≤ c) (hp : p ≤ n) :
    Calls Tryd.prog 68 #[.slice A n c, .int .i64 p] w fun e w' => e = .returned (coreOut (core l p)) ∧ Below w.heap.size w w' := by
  have hm := h.2.1
  unfold maxLen at hm
  have HR := Lib.hid h
  have HL := Lib.hid h.1
  clear h
  go_enter Tryd.func68, Tryd.ntmps68
  go_wp2
  refine wp_scope_back 0 (CoreJ w A n c l p) CoreM rfl ?_ ?_
  · rintro a' w1 ⟨q, i, u8, u9, u10, u11, u12, u13, u14, u15, u16, u17, u18, u19, u20, u21, u22, u23, u24, u25, u26, u27, u28, u29, u30, u31, u32, u33, u34, u35, u36, u37, u38, u39, u40, u41, u42, u43, hq, (⟨rfl, rfl, hQ⟩ | ⟨rfl, x, rfl, hQ⟩ | ⟨rfl, x, y, rfl, hQ⟩), rfl⟩
    all_goals
      have HQ := Lib.hid hQ
      clear hQ
    · have HB : Hid (Below w.heap.size w (w.alloc (.cells #[.int .u64 0, .int .u64 0, .int .u64 0] 66))) := ((Below.refl w.heap.size w).alloc (Nat.le_refl _) _)
      have HPE := Lib.hid (parse_end l q (by rw [HL.out]; exact hq))
      obtain ⟨⟨v, m, f⟩, hp⟩ : ∃ t, parse l q = t := ⟨_, rfl⟩
      have HE : Hid (core l q = if f ≠ 0 then (f, q, 0, 0, 0) else after1 l v (q + m)) := by unfold Hid core; rw [hp]
      have HP : Hid (parseOut l q = .tuple #[.int .u64 (v : Int), .int .i64 (m : Int), .int .i64 (f : Int)]) := by unfold Hid parseOut; rw [hp]
      rw [hp] at HPE
      have hqm : q + m ≤ n := by have := HPE.out; rw [HL.out] at this; exact this
      clear hp HPE
      go_wp2_with fail
      refine (parse_any _ _ _ l q _ (HR.out.kept HB.out) hc).mono ?_
      rintro e w' ⟨rfl, rfl⟩
      rw [HP.out]
      by_cases h0 : f = 0
      · subst h0
        have HE2 : Hid (core l q = after1 l v (q + m)) := HE.out.trans (if_neg (by simp))
        have HB2 : Hid (Below w.heap.size w (w.alloc (.cells #[.int .u64 (v : Int), .int .u64 0, .int .u64 0] 66))) := ((Below.refl w.heap.size w).alloc (Nat.le_refl _) _)
        clear HE
        go_wp2_with fail
        refine (point_any _ _ _ l (q + m) _ (HR.out.kept HB2.out) hqm).mono ?_
        rintro e w' ⟨rfl, rfl⟩
        have HPL := Lib.hid (point_lt (l := l) (q := q + m) (by rw [HL.out]; exact hqm))
        have HE3 : Hid (core l q = if point l (q + m) ≠ 0 then (point l (q + m), q + m, 0, 0, 0) else core1 l v (q + m + 1)) := HE2.out
        clear HE2
        generalize point l (q + m) = g at HPL HE3 ⊢
        by_cases h1 : g = 0
        · subst h1
          have HE4 : Hid (core l q = core1 l v (q + m + 1)) := HE3.out.trans (if_neg (by simp))
          have hql : q + m + 1 ≤ n := by have := HPL.out rfl; rw [HL.out] at this; omega
          go_wp2
          go_step3
          rw [show ((q : Int) + (m : Int) + 1) = ((q + m + 1 : Nat) : Int) from rfl]
          refine ⟨rfl, ⟨q + m + 1, 1, _, _, _, _, _, _, _, _, _, _, _, _, _, _, _, _, _, _, _, _, _, _, _, _, _, _, _, _, _, _, _, _, _, _, _, _, hql, .inr (.inl ⟨rfl, v, rfl, HE4.out.symm.trans HQ.out⟩), rfl⟩, ?_⟩
          simp [CoreM, intOf]
        · have HE4 : Hid (core l q = (g, q + m, 0, 0, 0)) := HE3.out.trans (if_pos h1)
          have hb1 : ((g : Int) != 0) = true := by simp [h1]
          have hb2 : ((g : Int) == 0) = false := by simp [h1]
          clear h1 HE3
          go_wp2
          simp only [Exit.jump]
          exact bodyPost_ret (v := coreOut (g, q + m, 0, 0, 0)) (by simp [coreOut, results, Tryd.results68, go_sem]) rfl ⟨by rw [← HQ.out, HE4.out], ((Below.refl w.heap.size w).alloc (Nat.le_refl _) _)⟩
      · have HE2 : Hid (core l q = (f, q, 0, 0, 0)) := HE.out.trans (if_pos h0)
        have hb1 : ((f : Int) != 0) = true := by simp [h0]
        have hb2 : ((f : Int) == 0) = false := by simp [h0]
        clear h0 HE
        go_wp2
        simp only [Exit.jump]
        exact bodyPost_ret (v := coreOut (f, q, 0, 0, 0)) (by simp [coreOut, results, Tryd.results68, go_sem]) rfl ⟨by rw [← HQ.out, HE2.out], ((Below.refl w.heap.size w).alloc (Nat.le_refl _) _)⟩
    · have HB : Hid (Below w.heap.size w (w.alloc (.cells #[.int .u64 (x : Int), .int .u64 0, .int .u64 0] 66))) := ((Below.refl w.heap.size w).alloc (Nat.le_refl _) _)
      have HPE := Lib.hid (parse_end l q (by rw [HL.out]; exact hq))
      obtain ⟨⟨v, m, f⟩, hp⟩ : ∃ t, parse l q = t := ⟨_, rfl⟩
      have HE : Hid (core1 l x q = if f ≠ 0 then (f, q, 0, 0, 0) else after2 l x v (q + m)) := by unfold Hid core1; rw [hp]
      have HP : Hid (parseOut l q = .tuple #[.int .u64 (v : Int), .int .i64 (m : Int), .int .i64 (f : Int)]) := by unfold Hid parseOut; rw [hp]
      rw [hp] at HPE
      have hqm : q + m ≤ n := by have := HPE.out; rw [HL.out] at this; exact this
      clear hp HPE
      go_wp2_with fail
      refine (parse_any _ _ _ l q _ (HR.out.kept HB.out) hc).mono ?_
      rintro e w' ⟨rfl, rfl⟩
      rw [HP.out]
      by_cases h0 : f = 0
      · subst h0
        have HE2 : Hid (core1 l x q = after2 l x v (q + m)) := HE.out.trans (if_neg (by simp))
        have HB2 : Hid (Below w.heap.size w (w.alloc (.cells #[.int .u64 (x : Int), .int .u64 (v : Int), .int .u64 0] 66))) := ((Below.refl w.heap.size w).alloc (Nat.le_refl _) _)
        clear HE
        go_wp2_with fail
        refine (point_any _ _ _ l (q + m) _ (HR.out.kept HB2.out) hqm).mono ?_
        rintro e w' ⟨rfl, rfl⟩
        have HPL := Lib.hid (point_lt (l := l) (q := q + m) (by rw [HL.out]; exact hqm))
        have HE3 : Hid (core1 l x q = if point l (q + m) ≠ 0 then (point l (q + m), q + m, 0, 0, 0) else core2 l x v (q + m + 1)) := HE2.out
        clear HE2
        generalize point l (q + m) = g at HPL HE3 ⊢
        by_cases h1 : g = 0
        · subst h1
          have HE4 : Hid (core1 l x q = core2 l x v (q + m + 1)) := HE3.out.trans (if_neg (by simp))
          have hql : q + m + 1 ≤ n := by have := HPL.out rfl; rw [HL.out] at this; omega
          go_wp2
          go_step3
          rw [show ((q : Int) + (m : Int) + 1) = ((q + m + 1 : Nat) : Int) from rfl]
          refine ⟨rfl, ⟨q + m + 1, 2, _, _, _, _, _, _, _, _, _, _, _, _, _, _, _, _, _, _, _, _, _, _, _, _, _, _, _, _, _, _, _, _, _, _, _, _, hql, .inr (.inr ⟨rfl, x, v, rfl, HE4.out.symm.trans HQ.out⟩), rfl⟩, ?_⟩
          simp [CoreM, intOf]
        · have HE4 : Hid (core1 l x q = (g, q + m, 0, 0, 0)) := HE3.out.trans (if_pos h1)
          have hb1 : ((g : Int) != 0) = true := by simp [h1]
          have hb2 : ((g : Int) == 0) = false := by simp [h1]
          clear h1 HE3
          go_wp2
          simp only [Exit.jump]
          exact bodyPost_ret (v := coreOut (g, q + m, 0, 0, 0)) (by simp [coreOut, results, Tryd.results68, go_sem]) rfl ⟨by rw [← HQ.out, HE4.out], ((Below.refl w.heap.size w).alloc (Nat.le_refl _) _)⟩
      · have HE2 : Hid (core1 l x q = (f, q, 0, 0, 0)) := HE.out.trans (if_pos h0)
        have hb1 : ((f : Int) != 0) = true := by simp [h0]
        have hb2 : ((f : Int) == 0) = false := by simp [h0]
        clear h0 HE
        go_wp2
        simp only [Exit.jump]
        exact bodyPost_ret (v := coreOut (f, q, 0, 0, 0)) (by simp [coreOut, results, Tryd.results68, go_sem]) rfl ⟨by rw [← HQ.out, HE2.out], ((Below.refl w.heap.size w).alloc (Nat.le_refl _) _)⟩
    · have HB : Hid (Below w.heap.size w (w.alloc (.cells #[.int .u64 (x : Int), .int .u64 (y : Int), .int .u64 0] 66))) := ((Below.refl w.heap.size w).alloc (Nat.le_refl _) _)
      have HPE := Lib.hid (parse_end l q (by rw [HL.out]; exact hq))
      obtain ⟨⟨v, m, f⟩, hp⟩ : ∃ t, parse l q = t := ⟨_, rfl⟩
      have HE : Hid (core2 l x y q = if f ≠ 0 then (f, q, 0, 0, 0) else (0, q + m, x, y, v)) := by unfold Hid core2; rw [hp]
      have HP : Hid (parseOut l q = .tuple #[.int .u64 (v : Int), .int .i64 (m : Int), .int .i64 (f : Int)]) := by unfold Hid parseOut; rw [hp]
      rw [hp] at HPE
      have hqm : q + m ≤ n := by have := HPE.out; rw [HL.out] at this; exact this
      clear hp HPE
      go_wp2_with fail
      refine (parse_any _ _ _ l q _ (HR.out.kept HB.out) hc).mono ?_
      rintro e w' ⟨rfl, rfl⟩
      rw [HP.out]
      by_cases h0 : f = 0
      · subst h0
        have HE2 : Hid (core2 l x y q = (0, q + m, x, y, v)) := HE.out.trans (if_neg (by simp))
        clear HE
        go_wp2
        simp only [Exit.jump]
        exact bodyPost_ret (v := coreOut (0, q + m, x, y, v)) (by simp [coreOut, results, Tryd.results68, go_sem]) rfl ⟨by rw [← HQ.out, HE2.out], ((Below.refl w.heap.size w).alloc (Nat.le_refl _) _)⟩
      · have HE2 : Hid (core2 l x y q = (f, q, 0, 0, 0)) := HE.out.trans (if_pos h0)
        have hb1 : ((f : Int) != 0) = true := by simp [h0]
        have hb2 : ((f : Int) == 0) = false := by simp [h0]
        clear h0 HE
        go_wp2
        simp only [Exit.jump]
        exact bodyPost_ret (v := coreOut (f, q, 0, 0, 0)) (by simp [coreOut, results, Tryd.results68, go_sem]) rfl ⟨by rw [← HQ.out, HE2.out], ((Below.refl w.heap.size w).alloc (Nat.le_refl _) _)⟩
  · intro HP
    go_wp2
    go_step3
    rename_i hK
    exact hK _ _ (HP.out _ _ ⟨p, 0, _, _, _, _, _, _, _, _, _, _, _, _, _, _, _, _, _, _, _, _, _, _, _, _, _, _, _, _, _, _, _, _, _, _, _, _, hp, .inl ⟨rfl, rfl, rfl⟩, rfl⟩)
end Go.Proofs.YtolkcblkciafiaaDoor.Semver
