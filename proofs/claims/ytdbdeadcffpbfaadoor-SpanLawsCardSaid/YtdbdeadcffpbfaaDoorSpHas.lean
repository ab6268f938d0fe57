/-
  Which versions a set has (span.Has and its closure). Conditions: the slice reads as the list of spans, the version's rows lie where it says, all of lengths that the form allows.
-/
import Derived.Test.YtdbdeadcffpbfaaDoorSpCuts
import Derived.Test.YtdbdeadcffpbfaaDoorSpOwn
import Derived.Test.YtdbdeadcffpbfaaDoorShelfHas
import Derived.RegionTactic
import Derived.ChangeAlike
namespace Go.Proofs.YtdbdeadcffpbfaaDoor.Span
open Go.RowKit Num Ident Semver Prec

/-- Does a span have what lies between two cuts? -/
def hasOne (a b : Cut) (s : Sp) : Bool := decide (cmpC s.lo a ≤ 0) && decide (0 ≤ cmpC s.hi b)

set_option maxRecDepth 100000 in
set_option maxHeartbeats 3200000 in
theorem has1_any (s : RSp) (ra rb : RCut) (p1 p2 : Nat) (w : World) (h : LiesS w s) (k1 : At6B w p1 (.int .i64 ra.kind) (.int .u64 (ra.v.a : Int)) (.int .u64 (ra.v.b : Int)) (.int .u64 (ra.v.c : Int)) (.slice ra.A ra.v.pre.length ra.c) (.slice ra.B ra.v.build.length ra.d)) (k2 : At6B w p2 (.int .i64 rb.kind) (.int .u64 (rb.v.a : Int)) (.int .u64 (rb.v.b : Int)) (.int .u64 (rb.v.c : Int)) (.slice rb.A rb.v.pre.length rb.c) (.slice rb.B rb.v.build.length rb.d)) (h1 : Lies w ra) (h2 : Lies w rb) :
    Calls Tryd.prog 26 #[.agg #[.int .i64 s.lo.kind, .int .u64 (s.lo.v.a : Int), .int .u64 (s.lo.v.b : Int), .int .u64 (s.lo.v.c : Int), .slice s.lo.A s.lo.v.pre.length s.lo.c, .slice s.lo.B s.lo.v.build.length s.lo.d, .int .i64 s.hi.kind, .int .u64 (s.hi.v.a : Int), .int .u64 (s.hi.v.b : Int), .int .u64 (s.hi.v.c : Int), .slice s.hi.A s.hi.v.pre.length s.hi.c, .slice s.hi.B s.hi.v.build.length s.hi.d], .pointer (some ⟨p1, 0, none⟩), .pointer (some ⟨p2, 0, none⟩)] w fun e w' => e = .returned (.bool (hasOne ra.cut rb.cut s.sp)) ∧ Below w.heap.size w w' := by
  have HBa : Hid (Below w.heap.size w (w.alloc (.cells #[.int .i64 s.lo.kind, .int .u64 (s.lo.v.a : Int), .int .u64 (s.lo.v.b : Int), .int .u64 (s.lo.v.c : Int), .slice s.lo.A s.lo.v.pre.length s.lo.c, .slice s.lo.B s.lo.v.build.length s.lo.d, .int .i64 s.hi.kind, .int .u64 (s.hi.v.a : Int), .int .u64 (s.hi.v.b : Int), .int .u64 (s.hi.v.c : Int), .slice s.hi.A s.hi.v.pre.length s.hi.c, .slice s.hi.B s.hi.v.build.length s.hi.d] 35))) := (Below.refl _ _).alloc (Nat.le_refl _) _
  have HL := Lib.hid (h.kept HBa.out)
  have HA := Lib.hid (h1.kept HBa.out)
  have HB := Lib.hid (h2.kept HBa.out)
  have K0 : Hid (At12B (w.alloc (.cells #[.int .i64 s.lo.kind, .int .u64 (s.lo.v.a : Int), .int .u64 (s.lo.v.b : Int), .int .u64 (s.lo.v.c : Int), .slice s.lo.A s.lo.v.pre.length s.lo.c, .slice s.lo.B s.lo.v.build.length s.lo.d, .int .i64 s.hi.kind, .int .u64 (s.hi.v.a : Int), .int .u64 (s.hi.v.b : Int), .int .u64 (s.hi.v.c : Int), .slice s.hi.A s.hi.v.pre.length s.hi.c, .slice s.hi.B s.hi.v.build.length s.hi.d] 35)) w.heap.size (.int .i64 s.lo.kind) (.int .u64 (s.lo.v.a : Int)) (.int .u64 (s.lo.v.b : Int)) (.int .u64 (s.lo.v.c : Int)) (.slice s.lo.A s.lo.v.pre.length s.lo.c) (.slice s.lo.B s.lo.v.build.length s.lo.d) (.int .i64 s.hi.kind) (.int .u64 (s.hi.v.a : Int)) (.int .u64 (s.hi.v.b : Int)) (.int .u64 (s.hi.v.c : Int)) (.slice s.hi.A s.hi.v.pre.length s.hi.c) (.slice s.hi.B s.hi.v.build.length s.hi.d)) := At12B.new w _ _ _ _ _ _ _ _ _ _ _ _ _
  have Y0 := Lib.hid (k1.kept HBa.out k1.1)
  have Z0 := Lib.hid (k2.kept HBa.out k2.1)
  clear h h1 h2 k1 k2
  have HF : Hid (hasOne ra.cut rb.cut s.sp = (decide (cmpC s.lo.cut ra.cut ≤ 0) && decide (0 ≤ cmpC s.hi.cut rb.cut))) := rfl
  go_enter Tryd.func26, Tryd.ntmps26
  go_upto_region 1 with (fail)
  generalize (w.alloc (.cells #[.int .i64 s.lo.kind, .int .u64 (s.lo.v.a : Int), .int .u64 (s.lo.v.b : Int), .int .u64 (s.lo.v.c : Int), .slice s.lo.A s.lo.v.pre.length s.lo.c, .slice s.lo.B s.lo.v.build.length s.lo.d, .int .i64 s.hi.kind, .int .u64 (s.hi.v.a : Int), .int .u64 (s.hi.v.b : Int), .int .u64 (s.hi.v.c : Int), .slice s.hi.A s.hi.v.pre.length s.hi.c, .slice s.hi.B s.hi.v.build.length s.hi.d] 35)) = W at HBa HL HA HB K0 Y0 Z0 ⊢
  obtain ⟨hz, _, x0, x1, x2, x3, x4, x5, x6, x7, x8, x9, x10, x11⟩ := K0.out
  obtain ⟨hy, _, y0, y1, y2, y3, y4, y5⟩ := Y0.out
  go_wp2_with fail
  refine (compareC_any s.lo ra _ HL.out.lo HA.out).mono ?_
  rintro e w1 ⟨rfl, hb1⟩
  have K1 := Lib.hid (K0.out.kept hb1 hz)
  have Z1 := Lib.hid (Z0.out.kept hb1 Z0.out.1)
  have L1 := Lib.hid (HL.out.kept hb1)
  have M1 := Lib.hid (HB.out.kept hb1)
  have B1 := Lib.hid (HBa.out.trans (hb1.mono HBa.out.size))
  clear hb1 hz hy x0 x1 x2 x3 x4 x5 x6 x7 x8 x9 x10 x11 y0 y1 y2 y3 y4 y5
  obtain ⟨hz1, _, x0, x1, x2, x3, x4, x5, x6, x7, x8, x9, x10, x11⟩ := K1.out
  obtain ⟨_, _, z0, z1, z2, z3, z4, z5⟩ := Z1.out
  generalize cmpC s.lo.cut ra.cut = c1 at HF ⊢
  by_cases hc : c1 ≤ 0
  · have hd : decide (c1 ≤ 0) = true := decide_eq_true hc
    go_wp2_with fail
    refine (compareC_any s.hi rb _ L1.out.hi M1.out).mono ?_
    rintro e w2 ⟨rfl, hb2⟩
    have B2 := Lib.hid (B1.out.trans (hb2.mono B1.out.size))
    clear hb2 x0 x1 x2 x3 x4 x5 x6 x7 x8 x9 x10 x11 z0 z1 z2 z3 z4 z5
    generalize cmpC s.hi.cut rb.cut = c2 at HF ⊢
    by_cases hc2 : 0 ≤ c2
    · have HF2 : Hid (hasOne ra.cut rb.cut s.sp = true) := by have := HF.out; unfold Hid; rw [this]; simp [hc, hc2]
      clear HF
      go_wp2
      go_ret
      exact ⟨by rw [HF2.out]; rfl, B2.out⟩
    · have HF2 : Hid (hasOne ra.cut rb.cut s.sp = false) := by have := HF.out; unfold Hid; rw [this]; simp [hc]; omega
      have hd2 : decide (0 ≤ c2) = false := decide_eq_false hc2
      clear HF
      go_wp2
      go_ret
      exact ⟨by rw [HF2.out]; rfl, B2.out⟩
  · have HF2 : Hid (hasOne ra.cut rb.cut s.sp = false) := by have := HF.out; unfold Hid; rw [this, decide_eq_false hc]; rfl
    have hd : decide (c1 ≤ 0) = false := decide_eq_false hc
    clear HF
    go_wp2
    go_ret
    exact ⟨by rw [HF2.out]; rfl, B1.out⟩

/-- A span whose versions lie in a world. -/
structure LaidS (w : World) where
  s : RSp
  h : LiesS w s
instance (w : World) : Inhabited (LaidS w) := ⟨⟨⟨rlow, rlow⟩, ⟨Lies.low w, Lies.low w⟩⟩⟩
set_option maxRecDepth 100000 in
set_option maxHeartbeats 800000 in
theorem index_none (P : Option Addr) (c : Nat) (f : Value) (w : World) : Calls Tryd.prog 37 #[.slice P 0 c, f] w fun e w' => e = .returned (.int .i64 (-1)) ∧ w = w' := by
  go_enter Tryd.func37, Tryd.ntmps37
  go_wp2
  go_loop [5, 8] (fun _ i => i = .int .i64 0) (fun _ _ => 0)
  case atStart => rfl
  case round =>
    subst hrel
    go_wp2
    go_ret
    exact ⟨rfl, rfl⟩
set_option maxRecDepth 100000 in
set_option maxHeartbeats 800000 in
theorem contains_none (P : Option Addr) (c : Nat) (f : Value) (w : World) : Calls Tryd.prog 25 #[.slice P 0 c, f] w fun e w' => e = .returned (.bool false) ∧ w = w' := by
  go_enter Tryd.func25, Tryd.ntmps25
  go_wp2_with fail
  refine (index_none _ _ _ _).mono ?_
  rintro e w' ⟨rfl, rfl⟩
  go_wp2
  go_ret
  exact ⟨rfl, rfl⟩
theorem contains_any (P : Option Addr) (n c : Nat) (l : List RSp) (p1 p2 : Nat) (ra rb : RCut) (w : World) (hr : SpRow w P n l) (hn : n ≤ 100000) (k1 : At6B w p1 (.int .i64 ra.kind) (.int .u64 (ra.v.a : Int)) (.int .u64 (ra.v.b : Int)) (.int .u64 (ra.v.c : Int)) (.slice ra.A ra.v.pre.length ra.c) (.slice ra.B ra.v.build.length ra.d)) (k2 : At6B w p2 (.int .i64 rb.kind) (.int .u64 (rb.v.a : Int)) (.int .u64 (rb.v.b : Int)) (.int .u64 (rb.v.c : Int)) (.slice rb.A rb.v.pre.length rb.c) (.slice rb.B rb.v.build.length rb.d)) (h1 : Lies w ra) (h2 : Lies w rb) :
    Calls Tryd.prog 25 #[.slice P n c, .func (.func 26) #[] #[.pointer (some ⟨p1, 0, none⟩), .pointer (some ⟨p2, 0, none⟩)]] w fun e w' => e = .returned (.bool ((l.map RSp.sp).any (hasOne ra.cut rb.cut))) ∧ Below w.heap.size w w' := by
  obtain ⟨hl, hlie, hc⟩ := hr
  rcases Nat.eq_zero_or_pos n with h0 | h0
  · subst h0
    obtain rfl : l = [] := List.eq_nil_of_length_eq_zero hl
    exact (contains_none P c _ w).mono fun e w' ⟨he, hw⟩ => ⟨he, by subst hw; exact Below.refl _ _⟩
  · obtain ⟨b, o, rfl, hb, hcell⟩ := hc h0
    obtain ⟨zs, hz⟩ : ∃ zs : List (LaidS w), zs.map LaidS.s = l := ⟨l.pmap (fun s h => (⟨s, h⟩ : LaidS w)) hlie, by simp [List.map_pmap]⟩
    have hzl : zs.length = n := by rw [← hl, ← hz, List.length_map]
    have hp : PredBelow Tryd.prog 26 #[.pointer (some ⟨p1, 0, none⟩), .pointer (some ⟨p2, 0, none⟩)] (fun x : LaidS w => .agg x.s.vals.toArray) (fun x => hasOne ra.cut rb.cut x.s.sp) w := by
      intro W x hB
      exact (has1_any x.s ra rb p1 p2 W (x.h.kept hB) (k1.kept hB k1.1) (k2.kept hB k2.1) (h1.kept hB) (h2.kept hB)).mono fun e w' ⟨he, hb'⟩ => ⟨he, hB.trans (hb'.mono hB.size)⟩
    have hcon := AnyQ.slices_ContainsFunc Tryd.hasL 12 Tryd.isAgg35 Tryd.sizeOf35 (fun x : LaidS w => x.s.vals) (fun _ => rfl) (fun x => hasOne ra.cut rb.cut x.s.sp) 26 #[.pointer (some ⟨p1, 0, none⟩), .pointer (some ⟨p2, 0, none⟩)] (enters_of Tryd.func26 (by kernel_rfl) rfl) b o n c zs w hp (by rw [hzl]; exact Nat.le_refl _) (by omega) hb
      (fun j hj i v hv => hcell j (by omega) i v (by
        have e : l.getD j default = zs[j]!.s := by
          rw [getElem!_pos zs j hj, ← hz]; simp [List.getD, hj]
        rw [e]; exact hv))
    refine hcon.mono fun e w' ⟨he, hb'⟩ => ⟨?_, hb'⟩
    rw [he, List.take_of_length_le (by rw [hzl]; exact Nat.le_refl _), ← hz, List.map_map, List.any_map]; rfl

set_option maxRecDepth 100000 in
set_option maxHeartbeats 3200000 in
theorem has_any (P : Option Addr) (n c : Nat) (l : List RSp) (v : Ver) (A : Option Addr) (cA : Nat) (B : Option Addr) (cB : Nat) (w : World) (hr : SpRow w P n l) (hn : n ≤ 100000) (h1 : SRow w A v.pre.length v.pre) (hf : Fit v.pre) (hnil : A = none → cA = 0) :
    Calls Tryd.prog 13 #[.slice P n c, .agg #[.int .u64 (v.a : Int), .int .u64 (v.b : Int), .int .u64 (v.c : Int), .slice A v.pre.length cA, .slice B v.build.length cB]] w fun e w' => e = .returned (.bool ((l.map RSp.sp).any (hasOne (aheadOf v) (behindOf v)))) ∧ Below w.heap.size w w' := by
  have HR := Lib.hid hr
  have HS := Lib.hid h1
  have HF := Lib.hid hf
  have HN := Lib.hid hnil
  clear hr h1 hf hnil
  generalize hg : (l.map RSp.sp).any (hasOne (aheadOf v) (behindOf v)) = g
  have HG := Lib.hid hg
  clear hg
  go_enter Tryd.func13, Tryd.ntmps13
  go_upto_region 2 with (fail)
  go_region
  · have HB : Hid (Below w.heap.size w (((w.alloc (.cells #[.int .u64 (v.a : Int), .int .u64 (v.b : Int), .int .u64 (v.c : Int), .slice A v.pre.length cA, .slice none 0 0] 31)).alloc (.cells #[.int .i64 1, .int .u64 (v.a : Int), .int .u64 (v.b : Int), .int .u64 (v.c : Int), .slice A v.pre.length cA, .slice none 0 0] 33)).alloc (.cells #[.int .i64 2, .int .u64 (v.a : Int), .int .u64 (v.b : Int), .int .u64 (v.c : Int), .slice A v.pre.length cA, .slice none 0 0] 33)).drew) := (((((Below.refl _ _).alloc (Nat.le_refl _) _).alloc (by simp) _).alloc (by simp; omega) _)).drew
    have Q1 : Hid (At6B (((w.alloc (.cells #[.int .u64 (v.a : Int), .int .u64 (v.b : Int), .int .u64 (v.c : Int), .slice A v.pre.length cA, .slice none 0 0] 31)).alloc (.cells #[.int .i64 1, .int .u64 (v.a : Int), .int .u64 (v.b : Int), .int .u64 (v.c : Int), .slice A v.pre.length cA, .slice none 0 0] 33)).alloc (.cells #[.int .i64 2, .int .u64 (v.a : Int), .int .u64 (v.b : Int), .int .u64 (v.c : Int), .slice A v.pre.length cA, .slice none 0 0] 33)).drew (w.heap.size + 1) (.int .i64 1) (.int .u64 (v.a : Int)) (.int .u64 (v.b : Int)) (.int .u64 (v.c : Int)) (.slice A v.pre.length cA) (.slice none 0 0)) := by
      have q := (At6B.new (w.alloc (.cells #[.int .u64 (v.a : Int), .int .u64 (v.b : Int), .int .u64 (v.c : Int), .slice A v.pre.length cA, .slice none 0 0] 31)) 33 (.int .i64 1) (.int .u64 (v.a : Int)) (.int .u64 (v.b : Int)) (.int .u64 (v.c : Int)) (.slice A v.pre.length cA) (.slice none 0 0)).kept ((Below.refl _ _).alloc (Nat.le_refl _) (.cells #[.int .i64 2, .int .u64 (v.a : Int), .int .u64 (v.b : Int), .int .u64 (v.c : Int), .slice A v.pre.length cA, .slice none 0 0] 33)) (by simp)
      rw [size_alloc] at q; exact q
    have Q2 : Hid (At6B (((w.alloc (.cells #[.int .u64 (v.a : Int), .int .u64 (v.b : Int), .int .u64 (v.c : Int), .slice A v.pre.length cA, .slice none 0 0] 31)).alloc (.cells #[.int .i64 1, .int .u64 (v.a : Int), .int .u64 (v.b : Int), .int .u64 (v.c : Int), .slice A v.pre.length cA, .slice none 0 0] 33)).alloc (.cells #[.int .i64 2, .int .u64 (v.a : Int), .int .u64 (v.b : Int), .int .u64 (v.c : Int), .slice A v.pre.length cA, .slice none 0 0] 33)).drew (w.heap.size + 1 + 1) (.int .i64 2) (.int .u64 (v.a : Int)) (.int .u64 (v.b : Int)) (.int .u64 (v.c : Int)) (.slice A v.pre.length cA) (.slice none 0 0)) := by
      have q := At6B.new ((w.alloc (.cells #[.int .u64 (v.a : Int), .int .u64 (v.b : Int), .int .u64 (v.c : Int), .slice A v.pre.length cA, .slice none 0 0] 31)).alloc (.cells #[.int .i64 1, .int .u64 (v.a : Int), .int .u64 (v.b : Int), .int .u64 (v.c : Int), .slice A v.pre.length cA, .slice none 0 0] 33)) 33 (.int .i64 2) (.int .u64 (v.a : Int)) (.int .u64 (v.b : Int)) (.int .u64 (v.c : Int)) (.slice A v.pre.length cA) (.slice none 0 0)
      rw [size_alloc, size_alloc] at q; exact q
    generalize (((w.alloc (.cells #[.int .u64 (v.a : Int), .int .u64 (v.b : Int), .int .u64 (v.c : Int), .slice A v.pre.length cA, .slice none 0 0] 31)).alloc (.cells #[.int .i64 1, .int .u64 (v.a : Int), .int .u64 (v.b : Int), .int .u64 (v.c : Int), .slice A v.pre.length cA, .slice none 0 0] 33)).alloc (.cells #[.int .i64 2, .int .u64 (v.a : Int), .int .u64 (v.b : Int), .int .u64 (v.c : Int), .slice A v.pre.length cA, .slice none 0 0] 33)).drew = W at HB Q1 Q2 ⊢
    have HV : Hid (SRow W A v.pre.length v.pre) := HS.out.kept HB.out
    go_wp2_with fail
    refine (contains_any P n c l _ _ ⟨1, bare v, A, cA, none, 0⟩ ⟨2, bare v, A, cA, none, 0⟩ _ (HR.out.kept HB.out) hn Q1.out Q2.out ⟨HV.out, SRow.none_ _ _, HF.out, Fit.nil, HN.out⟩ ⟨HV.out, SRow.none_ _ _, HF.out, Fit.nil, HN.out⟩).mono ?_
    rintro e w1 ⟨he, hb1⟩
    have he2 : e = .returned (.bool g) := by rw [← HG.out]; exact he
    subst he2
    clear he
    have B1 := Lib.hid (HB.out.trans (hb1.mono HB.out.size))
    clear hb1
    go_wp2
    go_ret
    exact ⟨rfl, B1.out⟩
  · have HB : Hid (Below w.heap.size w (((w.alloc (.cells #[.int .u64 (v.a : Int), .int .u64 (v.b : Int), .int .u64 (v.c : Int), .slice A v.pre.length cA, .slice none 0 0] 31)).alloc (.cells #[.int .i64 2, .int .u64 (v.a : Int), .int .u64 (v.b : Int), .int .u64 (v.c : Int), .slice A v.pre.length cA, .slice none 0 0] 33)).alloc (.cells #[.int .i64 1, .int .u64 (v.a : Int), .int .u64 (v.b : Int), .int .u64 (v.c : Int), .slice A v.pre.length cA, .slice none 0 0] 33)).drew) := (((((Below.refl _ _).alloc (Nat.le_refl _) _).alloc (by simp) _).alloc (by simp; omega) _)).drew
    have Q1 : Hid (At6B (((w.alloc (.cells #[.int .u64 (v.a : Int), .int .u64 (v.b : Int), .int .u64 (v.c : Int), .slice A v.pre.length cA, .slice none 0 0] 31)).alloc (.cells #[.int .i64 2, .int .u64 (v.a : Int), .int .u64 (v.b : Int), .int .u64 (v.c : Int), .slice A v.pre.length cA, .slice none 0 0] 33)).alloc (.cells #[.int .i64 1, .int .u64 (v.a : Int), .int .u64 (v.b : Int), .int .u64 (v.c : Int), .slice A v.pre.length cA, .slice none 0 0] 33)).drew (w.heap.size + 1) (.int .i64 2) (.int .u64 (v.a : Int)) (.int .u64 (v.b : Int)) (.int .u64 (v.c : Int)) (.slice A v.pre.length cA) (.slice none 0 0)) := by
      have q := (At6B.new (w.alloc (.cells #[.int .u64 (v.a : Int), .int .u64 (v.b : Int), .int .u64 (v.c : Int), .slice A v.pre.length cA, .slice none 0 0] 31)) 33 (.int .i64 2) (.int .u64 (v.a : Int)) (.int .u64 (v.b : Int)) (.int .u64 (v.c : Int)) (.slice A v.pre.length cA) (.slice none 0 0)).kept ((Below.refl _ _).alloc (Nat.le_refl _) (.cells #[.int .i64 1, .int .u64 (v.a : Int), .int .u64 (v.b : Int), .int .u64 (v.c : Int), .slice A v.pre.length cA, .slice none 0 0] 33)) (by simp)
      rw [size_alloc] at q; exact q
    have Q2 : Hid (At6B (((w.alloc (.cells #[.int .u64 (v.a : Int), .int .u64 (v.b : Int), .int .u64 (v.c : Int), .slice A v.pre.length cA, .slice none 0 0] 31)).alloc (.cells #[.int .i64 2, .int .u64 (v.a : Int), .int .u64 (v.b : Int), .int .u64 (v.c : Int), .slice A v.pre.length cA, .slice none 0 0] 33)).alloc (.cells #[.int .i64 1, .int .u64 (v.a : Int), .int .u64 (v.b : Int), .int .u64 (v.c : Int), .slice A v.pre.length cA, .slice none 0 0] 33)).drew (w.heap.size + 1 + 1) (.int .i64 1) (.int .u64 (v.a : Int)) (.int .u64 (v.b : Int)) (.int .u64 (v.c : Int)) (.slice A v.pre.length cA) (.slice none 0 0)) := by
      have q := At6B.new ((w.alloc (.cells #[.int .u64 (v.a : Int), .int .u64 (v.b : Int), .int .u64 (v.c : Int), .slice A v.pre.length cA, .slice none 0 0] 31)).alloc (.cells #[.int .i64 2, .int .u64 (v.a : Int), .int .u64 (v.b : Int), .int .u64 (v.c : Int), .slice A v.pre.length cA, .slice none 0 0] 33)) 33 (.int .i64 1) (.int .u64 (v.a : Int)) (.int .u64 (v.b : Int)) (.int .u64 (v.c : Int)) (.slice A v.pre.length cA) (.slice none 0 0)
      rw [size_alloc, size_alloc] at q; exact q
    generalize (((w.alloc (.cells #[.int .u64 (v.a : Int), .int .u64 (v.b : Int), .int .u64 (v.c : Int), .slice A v.pre.length cA, .slice none 0 0] 31)).alloc (.cells #[.int .i64 2, .int .u64 (v.a : Int), .int .u64 (v.b : Int), .int .u64 (v.c : Int), .slice A v.pre.length cA, .slice none 0 0] 33)).alloc (.cells #[.int .i64 1, .int .u64 (v.a : Int), .int .u64 (v.b : Int), .int .u64 (v.c : Int), .slice A v.pre.length cA, .slice none 0 0] 33)).drew = W at HB Q1 Q2 ⊢
    have HV : Hid (SRow W A v.pre.length v.pre) := HS.out.kept HB.out
    go_wp2_with fail
    refine (contains_any P n c l _ _ ⟨1, bare v, A, cA, none, 0⟩ ⟨2, bare v, A, cA, none, 0⟩ _ (HR.out.kept HB.out) hn Q2.out Q1.out ⟨HV.out, SRow.none_ _ _, HF.out, Fit.nil, HN.out⟩ ⟨HV.out, SRow.none_ _ _, HF.out, Fit.nil, HN.out⟩).mono ?_
    rintro e w1 ⟨he, hb1⟩
    have he2 : e = .returned (.bool g) := by rw [← HG.out]; exact he
    subst he2
    clear he
    have B1 := Lib.hid (HB.out.trans (hb1.mono HB.out.size))
    clear hb1
    go_wp2
    go_ret
    exact ⟨rfl, B1.out⟩

end Go.Proofs.YtdbdeadcffpbfaaDoor.Span
