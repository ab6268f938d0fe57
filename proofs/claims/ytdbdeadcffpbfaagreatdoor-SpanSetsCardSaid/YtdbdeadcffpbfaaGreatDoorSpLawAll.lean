/-
  Spans whose cuts compare as 0, one by one. A definition.
  Which versions a set has (span.Has and its closure). Conditions: the slice reads as the list of spans, the version's rows lie where it says, all of lengths that the form allows.
  Which sets are normal (span.Good). Conditions: the slice reads as the list of spans.
  What the laws on sets come to, plainly: a right version is in a set just if what stands behind its first cut is; what is normal stays; what isn't in what isn't in it is the set; a set and the rest are all. Plain facts.
  The versions that alone lie between two spans (span.Points), of two spans between which one lies. Conditions: the slice reads as the two spans, which are normal; the inner cuts are of like versions.
  Whether spans are few (the law's own few): if it says yes, there are at most twelve. Condition: the slice reads as the list of spans.
  The law's own awake says yes. No condition.
-/
import Derived.Test.YtdbdeadcffpbfaaGreatDoorSpMem
import Derived.Test.YtdbdeadcffpbfaaGreatDoorSpCuts
import Derived.Test.YtdbdeadcffpbfaaGreatDoorSpOwn
import Derived.Test.YtdbdeadcffpbfaaGreatDoorShelfHas
import Derived.RegionTactic
import Derived.ChangeAlike
import Derived.StillTailTactics
import Derived.Deep.CutBlock
import Derived.Deep.DeepCutAuto
import Derived.Deep.RegionHeld3
import Derived.Test.YtdbdeadcffpbfaaGreatDoorSpSets
import Derived.Test.YtdbdeadcffpbfaaGreatDoorSpCopied
namespace Go.Proofs.YtdbdeadcffpbfaaGreatDoor.Span
open Go.RowKit Num Ident Semver Prec

/-- Cuts compare as 0, one by one. -/
def Zero (l r : List RSp) (n : Nat) : Prop := ∀ i, i < n → cmpC (l.getD i default).lo.cut (r.getD i default).lo.cut = 0 ∧ cmpC (l.getD i default).hi.cut (r.getD i default).hi.cut = 0
end Go.Proofs.YtdbdeadcffpbfaaGreatDoor.Span

namespace Go.Proofs.YtdbdeadcffpbfaaGreatDoor.Span
open Go.RowKit Num Ident Semver Prec

/-- Does a span have what lies between two cuts? -/
def hasOne (a b : Cut) (s : Sp) : Bool := decide (cmpC s.lo a ≤ 0) && decide (0 ≤ cmpC s.hi b)

set_option maxRecDepth 100000 in
set_option maxHeartbeats 3200000 in
theorem has1_any (s : RSp) (ra rb : RCut) (p1 p2 : Nat) (w : World) (h : LiesS w s) (k1 : At6B w p1 (.int .i64 ra.kind) (.int .u64 (ra.v.a : Int)) (.int .u64 (ra.v.b : Int)) (.int .u64 (ra.v.c : Int)) (.slice ra.A ra.v.pre.length ra.c) (.slice ra.B ra.v.build.length ra.d)) (k2 : At6B w p2 (.int .i64 rb.kind) (.int .u64 (rb.v.a : Int)) (.int .u64 (rb.v.b : Int)) (.int .u64 (rb.v.c : Int)) (.slice rb.A rb.v.pre.length rb.c) (.slice rb.B rb.v.build.length rb.d)) (h1 : Lies w ra) (h2 : Lies w rb) :
    Calls Tryz.prog 29 #[.agg #[.int .i64 s.lo.kind, .int .u64 (s.lo.v.a : Int), .int .u64 (s.lo.v.b : Int), .int .u64 (s.lo.v.c : Int), .slice s.lo.A s.lo.v.pre.length s.lo.c, .slice s.lo.B s.lo.v.build.length s.lo.d, .int .i64 s.hi.kind, .int .u64 (s.hi.v.a : Int), .int .u64 (s.hi.v.b : Int), .int .u64 (s.hi.v.c : Int), .slice s.hi.A s.hi.v.pre.length s.hi.c, .slice s.hi.B s.hi.v.build.length s.hi.d], .pointer (some ⟨p1, 0, none⟩), .pointer (some ⟨p2, 0, none⟩)] w fun e w' => e = .returned (.bool (hasOne ra.cut rb.cut s.sp)) ∧ Below w.heap.size w w' := by
  have HBa : Hid (Below w.heap.size w (w.alloc (.cells #[.int .i64 s.lo.kind, .int .u64 (s.lo.v.a : Int), .int .u64 (s.lo.v.b : Int), .int .u64 (s.lo.v.c : Int), .slice s.lo.A s.lo.v.pre.length s.lo.c, .slice s.lo.B s.lo.v.build.length s.lo.d, .int .i64 s.hi.kind, .int .u64 (s.hi.v.a : Int), .int .u64 (s.hi.v.b : Int), .int .u64 (s.hi.v.c : Int), .slice s.hi.A s.hi.v.pre.length s.hi.c, .slice s.hi.B s.hi.v.build.length s.hi.d] 37))) := (Below.refl _ _).alloc (Nat.le_refl _) _
  have HL := Lib.hid (h.kept HBa.out)
  have HA := Lib.hid (h1.kept HBa.out)
  have HB := Lib.hid (h2.kept HBa.out)
  have K0 : Hid (At12B (w.alloc (.cells #[.int .i64 s.lo.kind, .int .u64 (s.lo.v.a : Int), .int .u64 (s.lo.v.b : Int), .int .u64 (s.lo.v.c : Int), .slice s.lo.A s.lo.v.pre.length s.lo.c, .slice s.lo.B s.lo.v.build.length s.lo.d, .int .i64 s.hi.kind, .int .u64 (s.hi.v.a : Int), .int .u64 (s.hi.v.b : Int), .int .u64 (s.hi.v.c : Int), .slice s.hi.A s.hi.v.pre.length s.hi.c, .slice s.hi.B s.hi.v.build.length s.hi.d] 37)) w.heap.size (.int .i64 s.lo.kind) (.int .u64 (s.lo.v.a : Int)) (.int .u64 (s.lo.v.b : Int)) (.int .u64 (s.lo.v.c : Int)) (.slice s.lo.A s.lo.v.pre.length s.lo.c) (.slice s.lo.B s.lo.v.build.length s.lo.d) (.int .i64 s.hi.kind) (.int .u64 (s.hi.v.a : Int)) (.int .u64 (s.hi.v.b : Int)) (.int .u64 (s.hi.v.c : Int)) (.slice s.hi.A s.hi.v.pre.length s.hi.c) (.slice s.hi.B s.hi.v.build.length s.hi.d)) := At12B.new w _ _ _ _ _ _ _ _ _ _ _ _ _
  have Y0 := Lib.hid (k1.kept HBa.out k1.1)
  have Z0 := Lib.hid (k2.kept HBa.out k2.1)
  clear h h1 h2 k1 k2
  have HF : Hid (hasOne ra.cut rb.cut s.sp = (decide (cmpC s.lo.cut ra.cut ≤ 0) && decide (0 ≤ cmpC s.hi.cut rb.cut))) := rfl
  go_enter Tryz.func29, Tryz.ntmps29
  go_upto_region 1 with (fail)
  generalize (w.alloc (.cells #[.int .i64 s.lo.kind, .int .u64 (s.lo.v.a : Int), .int .u64 (s.lo.v.b : Int), .int .u64 (s.lo.v.c : Int), .slice s.lo.A s.lo.v.pre.length s.lo.c, .slice s.lo.B s.lo.v.build.length s.lo.d, .int .i64 s.hi.kind, .int .u64 (s.hi.v.a : Int), .int .u64 (s.hi.v.b : Int), .int .u64 (s.hi.v.c : Int), .slice s.hi.A s.hi.v.pre.length s.hi.c, .slice s.hi.B s.hi.v.build.length s.hi.d] 37)) = W at HBa HL HA HB K0 Y0 Z0 ⊢
  obtain ⟨hz, _, x0, x1, x2, x3, x4, x5, x6, x7, x8, x9, x10, x11⟩ := K0.out
  obtain ⟨hy, _, y0, y1, y2, y3, y4, y5⟩ := Y0.out
  go_wp2_with fail
  refine (compareC_any s.lo ra _ HL.out.lo HA.out).mono ?_
  rintro e w1 ⟨rfl, hb1⟩
  have K1 := Lib.hid (K0.out.kept hb1 hz)
  have Z1 := Lib.hid (Z0.out.kept hb1 Z0.out.1)
  have L1 := Lib.hid (HL.out.kept hb1)
  have M1 := Lib.hid (HB.out.kept hb1)
  have B1 := Lib.hid (HBa.out.trans (hb1.mono HBa.out.size))
  clear hb1 hz hy x0 x1 x2 x3 x4 x5 x6 x7 x8 x9 x10 x11 y0 y1 y2 y3 y4 y5
  obtain ⟨hz1, _, x0, x1, x2, x3, x4, x5, x6, x7, x8, x9, x10, x11⟩ := K1.out
  obtain ⟨_, _, z0, z1, z2, z3, z4, z5⟩ := Z1.out
  generalize cmpC s.lo.cut ra.cut = c1 at HF ⊢
  by_cases hc : c1 ≤ 0
  · have hd : decide (c1 ≤ 0) = true := decide_eq_true hc
    go_wp2_with fail
    refine (compareC_any s.hi rb _ L1.out.hi M1.out).mono ?_
    rintro e w2 ⟨rfl, hb2⟩
    have B2 := Lib.hid (B1.out.trans (hb2.mono B1.out.size))
    clear hb2 x0 x1 x2 x3 x4 x5 x6 x7 x8 x9 x10 x11 z0 z1 z2 z3 z4 z5
    generalize cmpC s.hi.cut rb.cut = c2 at HF ⊢
    by_cases hc2 : 0 ≤ c2
    · have HF2 : Hid (hasOne ra.cut rb.cut s.sp = true) := by have := HF.out; unfold Hid; rw [this]; simp [hc, hc2]
      clear HF
      go_wp2
      go_ret
      exact ⟨by rw [HF2.out]; rfl, B2.out⟩
    · have HF2 : Hid (hasOne ra.cut rb.cut s.sp = false) := by have := HF.out; unfold Hid; rw [this]; simp [hc]; omega
      have hd2 : decide (0 ≤ c2) = false := decide_eq_false hc2
      clear HF
      go_wp2
      go_ret
      exact ⟨by rw [HF2.out]; rfl, B2.out⟩
  · have HF2 : Hid (hasOne ra.cut rb.cut s.sp = false) := by have := HF.out; unfold Hid; rw [this, decide_eq_false hc]; rfl
    have hd : decide (c1 ≤ 0) = false := decide_eq_false hc
    clear HF
    go_wp2
    go_ret
    exact ⟨by rw [HF2.out]; rfl, B1.out⟩

/-- A span whose versions lie in a world. -/
structure LaidS (w : World) where
  s : RSp
  h : LiesS w s
instance (w : World) : Inhabited (LaidS w) := ⟨⟨⟨rlow, rlow⟩, ⟨Lies.low w, Lies.low w⟩⟩⟩
set_option maxRecDepth 100000 in
set_option maxHeartbeats 800000 in
theorem index_none (P : Option Addr) (c : Nat) (f : Value) (w : World) : Calls Tryz.prog 43 #[.slice P 0 c, f] w fun e w' => e = .returned (.int .i64 (-1)) ∧ w = w' := by
  go_enter Tryz.func43, Tryz.ntmps43
  go_wp2
  go_loop [5, 8] (fun _ i => i = .int .i64 0) (fun _ _ => 0)
  case atStart => rfl
  case round =>
    subst hrel
    go_wp2
    go_ret
    exact ⟨rfl, rfl⟩
set_option maxRecDepth 100000 in
set_option maxHeartbeats 800000 in
theorem contains_none (P : Option Addr) (c : Nat) (f : Value) (w : World) : Calls Tryz.prog 28 #[.slice P 0 c, f] w fun e w' => e = .returned (.bool false) ∧ w = w' := by
  go_enter Tryz.func28, Tryz.ntmps28
  go_wp2_with fail
  refine (index_none _ _ _ _).mono ?_
  rintro e w' ⟨rfl, rfl⟩
  go_wp2
  go_ret
  exact ⟨rfl, rfl⟩
theorem contains_any (P : Option Addr) (n c : Nat) (l : List RSp) (p1 p2 : Nat) (ra rb : RCut) (w : World) (hr : SpRow w P n l) (hn : n ≤ 100000) (k1 : At6B w p1 (.int .i64 ra.kind) (.int .u64 (ra.v.a : Int)) (.int .u64 (ra.v.b : Int)) (.int .u64 (ra.v.c : Int)) (.slice ra.A ra.v.pre.length ra.c) (.slice ra.B ra.v.build.length ra.d)) (k2 : At6B w p2 (.int .i64 rb.kind) (.int .u64 (rb.v.a : Int)) (.int .u64 (rb.v.b : Int)) (.int .u64 (rb.v.c : Int)) (.slice rb.A rb.v.pre.length rb.c) (.slice rb.B rb.v.build.length rb.d)) (h1 : Lies w ra) (h2 : Lies w rb) :
    Calls Tryz.prog 28 #[.slice P n c, .func (.func 29) #[] #[.pointer (some ⟨p1, 0, none⟩), .pointer (some ⟨p2, 0, none⟩)]] w fun e w' => e = .returned (.bool ((l.map RSp.sp).any (hasOne ra.cut rb.cut))) ∧ Below w.heap.size w w' := by
  obtain ⟨hl, hlie, hc⟩ := hr
  rcases Nat.eq_zero_or_pos n with h0 | h0
  · subst h0
    obtain rfl : l = [] := List.eq_nil_of_length_eq_zero hl
    exact (contains_none P c _ w).mono fun e w' ⟨he, hw⟩ => ⟨he, by subst hw; exact Below.refl _ _⟩
  · obtain ⟨b, o, rfl, hb, hcell⟩ := hc h0
    obtain ⟨zs, hz⟩ : ∃ zs : List (LaidS w), zs.map LaidS.s = l := ⟨l.pmap (fun s h => (⟨s, h⟩ : LaidS w)) hlie, by simp [List.map_pmap]⟩
    have hzl : zs.length = n := by rw [← hl, ← hz, List.length_map]
    have hp : PredBelow Tryz.prog 29 #[.pointer (some ⟨p1, 0, none⟩), .pointer (some ⟨p2, 0, none⟩)] (fun x : LaidS w => .agg x.s.vals.toArray) (fun x => hasOne ra.cut rb.cut x.s.sp) w := by
      intro W x hB
      exact (has1_any x.s ra rb p1 p2 W (x.h.kept hB) (k1.kept hB k1.1) (k2.kept hB k2.1) (h1.kept hB) (h2.kept hB)).mono fun e w' ⟨he, hb'⟩ => ⟨he, hB.trans (hb'.mono hB.size)⟩
    have hcon := AnyQ.slices_ContainsFunc Tryz.hasL 12 Tryz.isAgg37 Tryz.sizeOf37 (fun x : LaidS w => x.s.vals) (fun _ => rfl) (fun x => hasOne ra.cut rb.cut x.s.sp) 29 #[.pointer (some ⟨p1, 0, none⟩), .pointer (some ⟨p2, 0, none⟩)] (enters_of Tryz.func29 (by kernel_rfl) rfl) b o n c zs w hp (by rw [hzl]; exact Nat.le_refl _) (by omega) hb
      (fun j hj i v hv => hcell j (by omega) i v (by
        have e : l.getD j default = zs[j]!.s := by
          rw [getElem!_pos zs j hj, ← hz]; simp [List.getD, hj]
        rw [e]; exact hv))
    refine hcon.mono fun e w' ⟨he, hb'⟩ => ⟨?_, hb'⟩
    rw [he, List.take_of_length_le (by rw [hzl]; exact Nat.le_refl _), ← hz, List.map_map, List.any_map]; rfl

set_option maxRecDepth 100000 in
set_option maxHeartbeats 3200000 in
theorem has_any (P : Option Addr) (n c : Nat) (l : List RSp) (v : Ver) (A : Option Addr) (cA : Nat) (B : Option Addr) (cB : Nat) (w : World) (hr : SpRow w P n l) (hn : n ≤ 100000) (h1 : SRow w A v.pre.length v.pre) (hf : Fit v.pre) (hnil : A = none → cA = 0) :
    Calls Tryz.prog 15 #[.slice P n c, .agg #[.int .u64 (v.a : Int), .int .u64 (v.b : Int), .int .u64 (v.c : Int), .slice A v.pre.length cA, .slice B v.build.length cB]] w fun e w' => e = .returned (.bool ((l.map RSp.sp).any (hasOne (aheadOf v) (behindOf v)))) ∧ Below w.heap.size w w' := by
  have HR := Lib.hid hr
  have HS := Lib.hid h1
  have HF := Lib.hid hf
  have HN := Lib.hid hnil
  clear hr h1 hf hnil
  generalize hg : (l.map RSp.sp).any (hasOne (aheadOf v) (behindOf v)) = g
  have HG := Lib.hid hg
  clear hg
  go_enter Tryz.func15, Tryz.ntmps15
  go_upto_region 2 with (fail)
  go_region
  · have HB : Hid (Below w.heap.size w (((w.alloc (.cells #[.int .u64 (v.a : Int), .int .u64 (v.b : Int), .int .u64 (v.c : Int), .slice A v.pre.length cA, .slice none 0 0] 32)).alloc (.cells #[.int .i64 1, .int .u64 (v.a : Int), .int .u64 (v.b : Int), .int .u64 (v.c : Int), .slice A v.pre.length cA, .slice none 0 0] 35)).alloc (.cells #[.int .i64 2, .int .u64 (v.a : Int), .int .u64 (v.b : Int), .int .u64 (v.c : Int), .slice A v.pre.length cA, .slice none 0 0] 35)).drew) := (((((Below.refl _ _).alloc (Nat.le_refl _) _).alloc (by simp) _).alloc (by simp; omega) _)).drew
    have Q1 : Hid (At6B (((w.alloc (.cells #[.int .u64 (v.a : Int), .int .u64 (v.b : Int), .int .u64 (v.c : Int), .slice A v.pre.length cA, .slice none 0 0] 32)).alloc (.cells #[.int .i64 1, .int .u64 (v.a : Int), .int .u64 (v.b : Int), .int .u64 (v.c : Int), .slice A v.pre.length cA, .slice none 0 0] 35)).alloc (.cells #[.int .i64 2, .int .u64 (v.a : Int), .int .u64 (v.b : Int), .int .u64 (v.c : Int), .slice A v.pre.length cA, .slice none 0 0] 35)).drew (w.heap.size + 1) (.int .i64 1) (.int .u64 (v.a : Int)) (.int .u64 (v.b : Int)) (.int .u64 (v.c : Int)) (.slice A v.pre.length cA) (.slice none 0 0)) := by
      have q := (At6B.new (w.alloc (.cells #[.int .u64 (v.a : Int), .int .u64 (v.b : Int), .int .u64 (v.c : Int), .slice A v.pre.length cA, .slice none 0 0] 32)) 35 (.int .i64 1) (.int .u64 (v.a : Int)) (.int .u64 (v.b : Int)) (.int .u64 (v.c : Int)) (.slice A v.pre.length cA) (.slice none 0 0)).kept ((Below.refl _ _).alloc (Nat.le_refl _) (.cells #[.int .i64 2, .int .u64 (v.a : Int), .int .u64 (v.b : Int), .int .u64 (v.c : Int), .slice A v.pre.length cA, .slice none 0 0] 35)) (by simp)
      rw [size_alloc] at q; exact q
    have Q2 : Hid (At6B (((w.alloc (.cells #[.int .u64 (v.a : Int), .int .u64 (v.b : Int), .int .u64 (v.c : Int), .slice A v.pre.length cA, .slice none 0 0] 32)).alloc (.cells #[.int .i64 1, .int .u64 (v.a : Int), .int .u64 (v.b : Int), .int .u64 (v.c : Int), .slice A v.pre.length cA, .slice none 0 0] 35)).alloc (.cells #[.int .i64 2, .int .u64 (v.a : Int), .int .u64 (v.b : Int), .int .u64 (v.c : Int), .slice A v.pre.length cA, .slice none 0 0] 35)).drew (w.heap.size + 1 + 1) (.int .i64 2) (.int .u64 (v.a : Int)) (.int .u64 (v.b : Int)) (.int .u64 (v.c : Int)) (.slice A v.pre.length cA) (.slice none 0 0)) := by
      have q := At6B.new ((w.alloc (.cells #[.int .u64 (v.a : Int), .int .u64 (v.b : Int), .int .u64 (v.c : Int), .slice A v.pre.length cA, .slice none 0 0] 32)).alloc (.cells #[.int .i64 1, .int .u64 (v.a : Int), .int .u64 (v.b : Int), .int .u64 (v.c : Int), .slice A v.pre.length cA, .slice none 0 0] 35)) 35 (.int .i64 2) (.int .u64 (v.a : Int)) (.int .u64 (v.b : Int)) (.int .u64 (v.c : Int)) (.slice A v.pre.length cA) (.slice none 0 0)
      rw [size_alloc, size_alloc] at q; exact q
    generalize (((w.alloc (.cells #[.int .u64 (v.a : Int), .int .u64 (v.b : Int), .int .u64 (v.c : Int), .slice A v.pre.length cA, .slice none 0 0] 32)).alloc (.cells #[.int .i64 1, .int .u64 (v.a : Int), .int .u64 (v.b : Int), .int .u64 (v.c : Int), .slice A v.pre.length cA, .slice none 0 0] 35)).alloc (.cells #[.int .i64 2, .int .u64 (v.a : Int), .int .u64 (v.b : Int), .int .u64 (v.c : Int), .slice A v.pre.length cA, .slice none 0 0] 35)).drew = W at HB Q1 Q2 ⊢
    have HV : Hid (SRow W A v.pre.length v.pre) := HS.out.kept HB.out
    go_wp2_with fail
    refine (contains_any P n c l _ _ ⟨1, bare v, A, cA, none, 0⟩ ⟨2, bare v, A, cA, none, 0⟩ _ (HR.out.kept HB.out) hn Q1.out Q2.out ⟨HV.out, SRow.none_ _ _, HF.out, Fit.nil, HN.out⟩ ⟨HV.out, SRow.none_ _ _, HF.out, Fit.nil, HN.out⟩).mono ?_
    rintro e w1 ⟨he, hb1⟩
    have he2 : e = .returned (.bool g) := by rw [← HG.out]; exact he
    subst he2
    clear he
    have B1 := Lib.hid (HB.out.trans (hb1.mono HB.out.size))
    clear hb1
    go_wp2
    go_ret
    exact ⟨rfl, B1.out⟩
  · have HB : Hid (Below w.heap.size w (((w.alloc (.cells #[.int .u64 (v.a : Int), .int .u64 (v.b : Int), .int .u64 (v.c : Int), .slice A v.pre.length cA, .slice none 0 0] 32)).alloc (.cells #[.int .i64 2, .int .u64 (v.a : Int), .int .u64 (v.b : Int), .int .u64 (v.c : Int), .slice A v.pre.length cA, .slice none 0 0] 35)).alloc (.cells #[.int .i64 1, .int .u64 (v.a : Int), .int .u64 (v.b : Int), .int .u64 (v.c : Int), .slice A v.pre.length cA, .slice none 0 0] 35)).drew) := (((((Below.refl _ _).alloc (Nat.le_refl _) _).alloc (by simp) _).alloc (by simp; omega) _)).drew
    have Q1 : Hid (At6B (((w.alloc (.cells #[.int .u64 (v.a : Int), .int .u64 (v.b : Int), .int .u64 (v.c : Int), .slice A v.pre.length cA, .slice none 0 0] 32)).alloc (.cells #[.int .i64 2, .int .u64 (v.a : Int), .int .u64 (v.b : Int), .int .u64 (v.c : Int), .slice A v.pre.length cA, .slice none 0 0] 35)).alloc (.cells #[.int .i64 1, .int .u64 (v.a : Int), .int .u64 (v.b : Int), .int .u64 (v.c : Int), .slice A v.pre.length cA, .slice none 0 0] 35)).drew (w.heap.size + 1) (.int .i64 2) (.int .u64 (v.a : Int)) (.int .u64 (v.b : Int)) (.int .u64 (v.c : Int)) (.slice A v.pre.length cA) (.slice none 0 0)) := by
      have q := (At6B.new (w.alloc (.cells #[.int .u64 (v.a : Int), .int .u64 (v.b : Int), .int .u64 (v.c : Int), .slice A v.pre.length cA, .slice none 0 0] 32)) 35 (.int .i64 2) (.int .u64 (v.a : Int)) (.int .u64 (v.b : Int)) (.int .u64 (v.c : Int)) (.slice A v.pre.length cA) (.slice none 0 0)).kept ((Below.refl _ _).alloc (Nat.le_refl _) (.cells #[.int .i64 1, .int .u64 (v.a : Int), .int .u64 (v.b : Int), .int .u64 (v.c : Int), .slice A v.pre.length cA, .slice none 0 0] 35)) (by simp)
      rw [size_alloc] at q; exact q
    have Q2 : Hid (At6B (((w.alloc (.cells #[.int .u64 (v.a : Int), .int .u64 (v.b : Int), .int .u64 (v.c : Int), .slice A v.pre.length cA, .slice none 0 0] 32)).alloc (.cells #[.int .i64 2, .int .u64 (v.a : Int), .int .u64 (v.b : Int), .int .u64 (v.c : Int), .slice A v.pre.length cA, .slice none 0 0] 35)).alloc (.cells #[.int .i64 1, .int .u64 (v.a : Int), .int .u64 (v.b : Int), .int .u64 (v.c : Int), .slice A v.pre.length cA, .slice none 0 0] 35)).drew (w.heap.size + 1 + 1) (.int .i64 1) (.int .u64 (v.a : Int)) (.int .u64 (v.b : Int)) (.int .u64 (v.c : Int)) (.slice A v.pre.length cA) (.slice none 0 0)) := by
      have q := At6B.new ((w.alloc (.cells #[.int .u64 (v.a : Int), .int .u64 (v.b : Int), .int .u64 (v.c : Int), .slice A v.pre.length cA, .slice none 0 0] 32)).alloc (.cells #[.int .i64 2, .int .u64 (v.a : Int), .int .u64 (v.b : Int), .int .u64 (v.c : Int), .slice A v.pre.length cA, .slice none 0 0] 35)) 35 (.int .i64 1) (.int .u64 (v.a : Int)) (.int .u64 (v.b : Int)) (.int .u64 (v.c : Int)) (.slice A v.pre.length cA) (.slice none 0 0)
      rw [size_alloc, size_alloc] at q; exact q
    generalize (((w.alloc (.cells #[.int .u64 (v.a : Int), .int .u64 (v.b : Int), .int .u64 (v.c : Int), .slice A v.pre.length cA, .slice none 0 0] 32)).alloc (.cells #[.int .i64 2, .int .u64 (v.a : Int), .int .u64 (v.b : Int), .int .u64 (v.c : Int), .slice A v.pre.length cA, .slice none 0 0] 35)).alloc (.cells #[.int .i64 1, .int .u64 (v.a : Int), .int .u64 (v.b : Int), .int .u64 (v.c : Int), .slice A v.pre.length cA, .slice none 0 0] 35)).drew = W at HB Q1 Q2 ⊢
    have HV : Hid (SRow W A v.pre.length v.pre) := HS.out.kept HB.out
    go_wp2_with fail
    refine (contains_any P n c l _ _ ⟨1, bare v, A, cA, none, 0⟩ ⟨2, bare v, A, cA, none, 0⟩ _ (HR.out.kept HB.out) hn Q2.out Q1.out ⟨HV.out, SRow.none_ _ _, HF.out, Fit.nil, HN.out⟩ ⟨HV.out, SRow.none_ _ _, HF.out, Fit.nil, HN.out⟩).mono ?_
    rintro e w1 ⟨he, hb1⟩
    have he2 : e = .returned (.bool g) := by rw [← HG.out]; exact he
    subst he2
    clear he
    have B1 := Lib.hid (HB.out.trans (hb1.mono HB.out.size))
    clear hb1
    go_wp2
    go_ret
    exact ⟨rfl, B1.out⟩

end Go.Proofs.YtdbdeadcffpbfaaGreatDoor.Span

namespace Go.Proofs.YtdbdeadcffpbfaaGreatDoor.Span
open Go.RowKit Num Ident Semver Prec

/-- Is a set normal at a place? -/
def goodAt (l : List Sp) (i : Nat) : Bool := cnt (l.getD i default) && (decide (i = 0) || decide (stand (l.getD (i - 1) default).hi (l.getD i default).lo < 0))
theorem goodAt_iff (l : List Sp) (i : Nat) : goodAt l i = true ↔ cnt (l.getD i default) = true ∧ (i = 0 ∨ stand (l.getD (i - 1) default).hi (l.getD i default).lo < 0) := by simp [goodAt]
theorem goodS_all {l : List Sp} (h : ∀ i, i < l.length → goodAt l i = true) : goodS l = true := (goodS_iff l).2 fun i hi => (goodAt_iff l i).1 (h i hi)
theorem goodS_not {l : List Sp} {i : Nat} (hi : i < l.length) (h : goodAt l i = false) : goodS l = false := goodS_no hi fun k => by rw [(goodAt_iff l i).2 k] at h; cases h
theorem sp_at (l : List RSp) (i : Nat) : (l.map RSp.sp).getD i default = (l.getD i default).sp := by
  by_cases h : i < l.length
  · simp [List.getD, List.getElem?_eq_getElem h]
  · simp [List.getD, List.getElem?_eq_none (Nat.le_of_not_lt h)]; rfl
theorem goodAt_eq (l : List RSp) (k : Nat) : goodAt (l.map RSp.sp) k = (cnt (l.getD k default).sp && (decide (k = 0) || decide (stand (l.getD (k - 1) default).hi.cut (l.getD k default).lo.cut < 0))) := by
  unfold goodAt; rw [sp_at, sp_at]; rfl
/-- A span's twelve cells at a place. -/
def SpAt (w : World) (b o : Nat) (s : RSp) : Prop := ∀ i v, s.vals[i]? = some v → w.cell? ⟨b, o + i, none⟩ = some v
theorem SpAt.kept {w w' : World} {b o : Nat} {s : RSp} (h : SpAt w b o s) (hb : Below w.heap.size w w') (hlt : b < w.heap.size) : SpAt w' b o s := fun i v hv => (hb.cell (p := ⟨b, o + i, none⟩) hlt).trans (h i v hv)
theorem SpAt.cells {w : World} {b o : Nat} {s : RSp} (h : SpAt w b o s) : w.cell? ⟨b, o, none⟩ = some (.int .i64 s.lo.kind) ∧ w.cell? ⟨b, o + 1, none⟩ = some (.int .u64 (s.lo.v.a : Int)) ∧ w.cell? ⟨b, o + 2, none⟩ = some (.int .u64 (s.lo.v.b : Int)) ∧ w.cell? ⟨b, o + 3, none⟩ = some (.int .u64 (s.lo.v.c : Int)) ∧ w.cell? ⟨b, o + 4, none⟩ = some (.slice s.lo.A s.lo.v.pre.length s.lo.c) ∧ w.cell? ⟨b, o + 5, none⟩ = some (.slice s.lo.B s.lo.v.build.length s.lo.d) ∧ w.cell? ⟨b, o + 6, none⟩ = some (.int .i64 s.hi.kind) ∧ w.cell? ⟨b, o + 7, none⟩ = some (.int .u64 (s.hi.v.a : Int)) ∧ w.cell? ⟨b, o + 8, none⟩ = some (.int .u64 (s.hi.v.b : Int)) ∧ w.cell? ⟨b, o + 9, none⟩ = some (.int .u64 (s.hi.v.c : Int)) ∧ w.cell? ⟨b, o + 10, none⟩ = some (.slice s.hi.A s.hi.v.pre.length s.hi.c) ∧ w.cell? ⟨b, o + 11, none⟩ = some (.slice s.hi.B s.hi.v.build.length s.hi.d) :=
  ⟨h 0 _ rfl, h 1 _ rfl, h 2 _ rfl, h 3 _ rfl, h 4 _ rfl, h 5 _ rfl, h 6 _ rfl, h 7 _ rfl, h 8 _ rfl, h 9 _ rfl, h 10 _ rfl, h 11 _ rfl⟩
def GdJ (w : World) (A : Option Addr) (n c : Nat) (l : List RSp) (a' : Act) (w' : World) : Prop :=
  ∃ (k : Nat) (u4 u5 u6 u7 u8 u9 u10 u11 u12 u13 u14 u15 u16 u17 u18 u19 u20 u21 u22 u23 u24 u25 u26 u27 u28 u29 u30 u31 u32 u33 u34 : Value), Below w.heap.size w w' ∧ k ≤ n ∧ (∀ i, i < k → goodAt (l.map RSp.sp) i = true) ∧
    a' = { tmps := #[.slice A n c, undef, .bool false, .int .i64 k, u4, u5, u6, u7, u8, u9, u10, u11, u12, u13, u14, u15, u16, u17, u18, u19, u20, u21, u22, u23, u24, u25, u26, u27, u28, u29, u30, u31, u32, u33, u34], defers := [] }
def GdM (n : Nat) (a' : Act) (_ : World) : Nat := n - (intOf (a'.tmps.getD 3 undef)).toNat
set_option maxRecDepth 100000 in
set_option maxHeartbeats 6400000 in
theorem goodS_any (A : Option Addr) (n c : Nat) (l : List RSp) (w : World) (hr : SpRow w A n l) (hn : n ≤ 100000) :
    Calls Tryz.prog 16 #[.slice A n c] w fun e w' => e = .returned (.bool (goodS (l.map RSp.sp))) ∧ Below w.heap.size w w' := by
  have HR := Lib.hid hr
  have HLX := Lib.hid (show (l.map RSp.sp).length = n by rw [List.length_map]; exact hr.1)
  clear hr
  go_enter Tryz.func16, Tryz.ntmps16
  go_wp2
  refine wp_scope_back 0 (GdJ w A n c l) (GdM n) rfl ?_ ?_
  · rintro a' w1 ⟨k, u4, u5, u6, u7, u8, u9, u10, u11, u12, u13, u14, u15, u16, u17, u18, u19, u20, u21, u22, u23, u24, u25, u26, u27, u28, u29, u30, u31, u32, u33, u34, hb1, hk, hgo, rfl⟩
    have HB1 := Lib.hid hb1
    have HG := Lib.hid hgo
    clear hb1 hgo
    have hz1 := HB1.out.size
    by_cases h1 : k = n
    · have HF : Hid (goodS (l.map RSp.sp) = true) := goodS_all fun i hi => HG.out i (by rw [HLX.out] at hi; omega)
      have hb : ((k : Int) == (n : Int)) = true := by simp [h1]
      clear h1
      go_wp2
      simp only [Exit.jump]
      go_ret
      exact ⟨by rw [HF.out]; rfl, HB1.out⟩
    have hlt : k < n := by omega
    have hb : ((k : Int) == (n : Int)) = false := by simp; omega
    clear h1
    have HR1 := Lib.hid (HR.out.kept HB1.out)
    obtain ⟨g, o, rfl, hg, hc1⟩ := HR1.out.2.2 (by omega)
    obtain ⟨j, hj⟩ : ∃ j, k - 1 = j := ⟨_, rfl⟩
    have HC : Hid (SpAt w1 g (o + k * 12) (l.getD k default)) := hc1 k hlt
    have HD : Hid (SpAt w1 g (o + j * 12) (l.getD j default)) := hc1 j (by omega)
    have HLS := Lib.hid (HR1.out.lies hlt)
    have HLP := Lib.hid (HR1.out.lies (k := j) (by omega))
    have HQ := Lib.hid (goodAt_eq l k)
    rw [hj] at HQ
    clear hc1
    generalize l.getD k default = s at HC HLS HQ
    generalize l.getD j default = p at HD HLP HQ
    go_upto_region 4 with (fail)
    go_cut [32] (fun x wx => x = .bool (!(goodAt (l.map RSp.sp) k)) ∧ Below w.heap.size w wx)
    case first =>
      obtain ⟨cn, hcn⟩ : ∃ cn, cnt s.sp = cn := ⟨_, rfl⟩
      have HCN := Lib.hid hcn
      rw [hcn] at HQ
      clear hcn
      cases cn
      · have HF : Hid ((!(goodAt (l.map RSp.sp) k)) = true) := by unfold Hid; rw [HQ.out]; rfl
        clear HQ
        have B0 := Lib.hid ((Below.refl w1.heap.size w1).drew)
        refine wp_region_held_drew (S := fun w' => SpAt w' g (o + k * 12) s ∧ SpAt w' g (o + j * 12) p) (by kernel_rfl) ⟨HC.out, HD.out⟩ (fun hHeld => ?_)
        refine wpAnyH_take (i := 0) (oi := { dst := some 8, op := Op.move (Operand.tmp 0), type := 22, pos := "span.go:34", after := #[], guard := none }) (v := .slice (some ⟨g, o, none⟩) n c) rfl (by kernel_rfl) (by kernel_rfl) (by kernel_rfl) (fun _ _ _ h => h) (Or.inl ⟨by rfl, fun w' hS' => by go_simp⟩) (by assumption) ?_
        simp only [Act.put, List.setIfInBounds_toArray, List.set_cons_zero, List.set_cons_succ]
        refine wpAnyH_take (i := 1) (oi := { dst := some 9, op := Op.move (Operand.tmp 3), type := 3, pos := "span.go:34", after := #[], guard := none }) (v := .int .i64 (k : Int)) rfl (by kernel_rfl) (by kernel_rfl) (by kernel_rfl) (fun _ _ _ h => h) (Or.inl ⟨by rfl, fun w' hS' => by go_simp⟩) (by assumption) ?_
        simp only [Act.put, List.setIfInBounds_toArray, List.set_cons_zero, List.set_cons_succ]
        refine wpAnyH_take (i := 2) (oi := { dst := some 10, op := Op.indexAddr 22 (Operand.tmp 8) (Operand.tmp 9), type := 0, pos := "span.go:34", after := #[{ on := 0, ground := Ground.data }, { on := 1, ground := Ground.data }], guard := none }) (v := .pointer (some ⟨g, o + k * 12, none⟩)) rfl (by kernel_rfl) (by kernel_rfl) (by kernel_rfl) (fun _ _ _ h => h) (Or.inl ⟨by rfl, fun w' hS' => by go_simp⟩) (by assumption) ?_
        simp only [Act.put, List.setIfInBounds_toArray, List.set_cons_zero, List.set_cons_succ]
        refine wpAnyH_take (i := 3) (oi := { dst := some 11, op := Op.load 37 (Operand.tmp 10), type := 37, pos := "span.go:34", after := #[{ on := 2, ground := Ground.data }], guard := none }) (v := .agg #[.int .i64 s.lo.kind, .int .u64 (s.lo.v.a : Int), .int .u64 (s.lo.v.b : Int), .int .u64 (s.lo.v.c : Int), .slice s.lo.A s.lo.v.pre.length s.lo.c, .slice s.lo.B s.lo.v.build.length s.lo.d, .int .i64 s.hi.kind, .int .u64 (s.hi.v.a : Int), .int .u64 (s.hi.v.b : Int), .int .u64 (s.hi.v.c : Int), .slice s.hi.A s.hi.v.pre.length s.hi.c, .slice s.hi.B s.hi.v.build.length s.hi.d]) rfl (by kernel_rfl) (by kernel_rfl) (by kernel_rfl) (fun _ _ _ h => h) (Or.inl ⟨by rfl, fun w' hS' => by obtain ⟨x0, x1, x2, x3, x4, x5, x6, x7, x8, x9, x10, x11⟩ := hS'.1.cells; go_simp⟩) (by assumption) ?_
        simp only [Act.put, List.setIfInBounds_toArray, List.set_cons_zero, List.set_cons_succ]
        refine wpAnyH_ready (rs := [4]) (by kernel_rfl) (by simp) ?_
        refine AllReadyH.cons (o := { dst := some 12, op := Op.call { callee := Callee.value (Operand.func 31), args := #[Operand.tmp 11], argTypes := #[37] }, type := 4, pos := "span.go:34", after := #[{ on := 3, ground := Ground.data }], guard := none }) rfl (fun K hK => ?_) AllReadyH.nil
        go_simp
        refine (counts_any s _ (HLS.out.kept B0.out)).mono ?_
        rintro e w2 ⟨rfl, hb2⟩
        have B2 := Lib.hid (B0.out.trans (hb2.mono B0.out.size))
        clear hb2 hHeld
        rw [HCN.out]
        refine hK.out _ _ ⟨HC.out.kept B2.out hg, HD.out.kept B2.out hg⟩ (fun hHeld => ?_)
        clear hK K
        try simp only [Act.put, List.setIfInBounds_toArray, List.set_cons_zero, List.set_cons_succ]
        refine wpAnyH_take (i := 5) (oi := { dst := some 13, op := Op.unOp UnOp.not 4 (Operand.tmp 12), type := 4, pos := "span.go:34", after := #[{ on := 4, ground := Ground.data }], guard := none }) (v := .bool true) rfl (by kernel_rfl) (by kernel_rfl) (by kernel_rfl) (fun _ _ _ h => h) (Or.inl ⟨by rfl, fun w' hS' => by go_simp⟩) (by assumption) ?_
        simp only [Act.put, List.setIfInBounds_toArray, List.set_cons_zero, List.set_cons_succ]
        refine wpAnyH_take (i := 6) (oi := { dst := some 14, op := Op.move (Operand.tmp 13), type := 4, pos := "span.go:34", after := #[{ on := 5, ground := Ground.data }, { on := 4, ground := Ground.chain }], guard := none }) (v := .bool true) rfl (by kernel_rfl) (by kernel_rfl) (by kernel_rfl) (fun _ _ _ h => h) (Or.inl ⟨by rfl, fun w' hS' => by go_simp⟩) (by assumption) ?_
        simp only [Act.put, List.setIfInBounds_toArray, List.set_cons_zero, List.set_cons_succ]
        refine wpAnyH_take (i := 7) (oi := { dst := some 15, op := Op.move (Operand.tmp 3), type := 3, pos := "span.go:34", after := #[{ on := 6, ground := Ground.guard }], guard := some (6, false) }) (v := undef) rfl (by kernel_rfl) (by kernel_rfl) (by kernel_rfl) (fun _ _ _ h => h) (Or.inr ⟨by rfl, rfl⟩) (by assumption) ?_
        simp only [Act.put, List.setIfInBounds_toArray, List.set_cons_zero, List.set_cons_succ]
        refine wpAnyH_take (i := 8) (oi := { dst := some 16, op := Op.binOp BinOp.gtr 3 (Operand.tmp 15) (Operand.const (Value.int IntKind.i64 0)) 3, type := 4, pos := "span.go:34", after := #[{ on := 7, ground := Ground.data }, { on := 6, ground := Ground.guard }], guard := some (6, false) }) (v := undef) rfl (by kernel_rfl) (by kernel_rfl) (by kernel_rfl) (fun _ _ _ h => h) (Or.inr ⟨by rfl, rfl⟩) (by assumption) ?_
        simp only [Act.put, List.setIfInBounds_toArray, List.set_cons_zero, List.set_cons_succ]
        refine wpAnyH_take (i := 9) (oi := { dst := some 17, op := Op.move (Operand.tmp 16), type := 4, pos := "span.go:34", after := #[{ on := 8, ground := Ground.data }, { on := 6, ground := Ground.chain }, { on := 6, ground := Ground.guard }], guard := some (6, false) }) (v := undef) rfl (by kernel_rfl) (by kernel_rfl) (by kernel_rfl) (fun _ _ _ h => h) (Or.inr ⟨by rfl, rfl⟩) (by assumption) ?_
        simp only [Act.put, List.setIfInBounds_toArray, List.set_cons_zero, List.set_cons_succ]
        refine wpAnyH_take (i := 10) (oi := { dst := some 18, op := Op.move (Operand.tmp 0), type := 22, pos := "span.go:34", after := #[{ on := 9, ground := Ground.guard }], guard := some (9, true) }) (v := undef) rfl (by kernel_rfl) (by kernel_rfl) (by kernel_rfl) (fun _ _ _ h => h) (Or.inr ⟨by rfl, rfl⟩) (by assumption) ?_
        simp only [Act.put, List.setIfInBounds_toArray, List.set_cons_zero, List.set_cons_succ]
        refine wpAnyH_take (i := 11) (oi := { dst := some 19, op := Op.move (Operand.tmp 3), type := 3, pos := "span.go:34", after := #[{ on := 9, ground := Ground.guard }], guard := some (9, true) }) (v := undef) rfl (by kernel_rfl) (by kernel_rfl) (by kernel_rfl) (fun _ _ _ h => h) (Or.inr ⟨by rfl, rfl⟩) (by assumption) ?_
        simp only [Act.put, List.setIfInBounds_toArray, List.set_cons_zero, List.set_cons_succ]
        refine wpAnyH_take (i := 12) (oi := { dst := some 20, op := Op.binOp BinOp.sub 3 (Operand.tmp 19) (Operand.const (Value.int IntKind.i64 1)) 3, type := 3, pos := "span.go:34", after := #[{ on := 11, ground := Ground.data }, { on := 9, ground := Ground.guard }], guard := some (9, true) }) (v := undef) rfl (by kernel_rfl) (by kernel_rfl) (by kernel_rfl) (fun _ _ _ h => h) (Or.inr ⟨by rfl, rfl⟩) (by assumption) ?_
        simp only [Act.put, List.setIfInBounds_toArray, List.set_cons_zero, List.set_cons_succ]
        refine wpAnyH_take (i := 13) (oi := { dst := some 21, op := Op.indexAddr 22 (Operand.tmp 18) (Operand.tmp 20), type := 0, pos := "span.go:34", after := #[{ on := 10, ground := Ground.data }, { on := 12, ground := Ground.data }, { on := 9, ground := Ground.guard }], guard := some (9, true) }) (v := undef) rfl (by kernel_rfl) (by kernel_rfl) (by kernel_rfl) (fun _ _ _ h => h) (Or.inr ⟨by rfl, rfl⟩) (by assumption) ?_
        simp only [Act.put, List.setIfInBounds_toArray, List.set_cons_zero, List.set_cons_succ]
        refine wpAnyH_take (i := 14) (oi := { dst := some 22, op := Op.fieldAddr 37 (Operand.tmp 21) 1, type := 0, pos := "span.go:34", after := #[{ on := 13, ground := Ground.data }, { on := 9, ground := Ground.guard }], guard := some (9, true) }) (v := undef) rfl (by kernel_rfl) (by kernel_rfl) (by kernel_rfl) (fun _ _ _ h => h) (Or.inr ⟨by rfl, rfl⟩) (by assumption) ?_
        simp only [Act.put, List.setIfInBounds_toArray, List.set_cons_zero, List.set_cons_succ]
        refine wpAnyH_take (i := 15) (oi := { dst := some 23, op := Op.load 35 (Operand.tmp 22), type := 35, pos := "span.go:34", after := #[{ on := 14, ground := Ground.data }, { on := 9, ground := Ground.guard }], guard := some (9, true) }) (v := undef) rfl (by kernel_rfl) (by kernel_rfl) (by kernel_rfl) (fun _ _ _ h => h) (Or.inr ⟨by rfl, rfl⟩) (by assumption) ?_
        simp only [Act.put, List.setIfInBounds_toArray, List.set_cons_zero, List.set_cons_succ]
        refine wpAnyH_take (i := 16) (oi := { dst := some 24, op := Op.move (Operand.tmp 0), type := 22, pos := "span.go:34", after := #[{ on := 9, ground := Ground.guard }], guard := some (9, true) }) (v := undef) rfl (by kernel_rfl) (by kernel_rfl) (by kernel_rfl) (fun _ _ _ h => h) (Or.inr ⟨by rfl, rfl⟩) (by assumption) ?_
        simp only [Act.put, List.setIfInBounds_toArray, List.set_cons_zero, List.set_cons_succ]
        refine wpAnyH_take (i := 17) (oi := { dst := some 25, op := Op.move (Operand.tmp 3), type := 3, pos := "span.go:34", after := #[{ on := 9, ground := Ground.guard }], guard := some (9, true) }) (v := undef) rfl (by kernel_rfl) (by kernel_rfl) (by kernel_rfl) (fun _ _ _ h => h) (Or.inr ⟨by rfl, rfl⟩) (by assumption) ?_
        simp only [Act.put, List.setIfInBounds_toArray, List.set_cons_zero, List.set_cons_succ]
        refine wpAnyH_take (i := 18) (oi := { dst := some 26, op := Op.indexAddr 22 (Operand.tmp 24) (Operand.tmp 25), type := 0, pos := "span.go:34", after := #[{ on := 16, ground := Ground.data }, { on := 17, ground := Ground.data }, { on := 9, ground := Ground.guard }], guard := some (9, true) }) (v := undef) rfl (by kernel_rfl) (by kernel_rfl) (by kernel_rfl) (fun _ _ _ h => h) (Or.inr ⟨by rfl, rfl⟩) (by assumption) ?_
        simp only [Act.put, List.setIfInBounds_toArray, List.set_cons_zero, List.set_cons_succ]
        refine wpAnyH_take (i := 19) (oi := { dst := some 27, op := Op.fieldAddr 37 (Operand.tmp 26) 0, type := 0, pos := "span.go:34", after := #[{ on := 18, ground := Ground.data }, { on := 9, ground := Ground.guard }], guard := some (9, true) }) (v := undef) rfl (by kernel_rfl) (by kernel_rfl) (by kernel_rfl) (fun _ _ _ h => h) (Or.inr ⟨by rfl, rfl⟩) (by assumption) ?_
        simp only [Act.put, List.setIfInBounds_toArray, List.set_cons_zero, List.set_cons_succ]
        refine wpAnyH_take (i := 20) (oi := { dst := some 28, op := Op.load 35 (Operand.tmp 27), type := 35, pos := "span.go:34", after := #[{ on := 19, ground := Ground.data }, { on := 9, ground := Ground.guard }], guard := some (9, true) }) (v := undef) rfl (by kernel_rfl) (by kernel_rfl) (by kernel_rfl) (fun _ _ _ h => h) (Or.inr ⟨by rfl, rfl⟩) (by assumption) ?_
        simp only [Act.put, List.setIfInBounds_toArray, List.set_cons_zero, List.set_cons_succ]
        refine wpAnyH_take (i := 21) (oi := { dst := some 29, op := Op.call { callee := Callee.value (Operand.func 32), args := #[Operand.tmp 23, Operand.tmp 28], argTypes := #[35, 35] }, type := 3, pos := "span.go:34", after := #[{ on := 15, ground := Ground.data }, { on := 20, ground := Ground.data }, { on := 9, ground := Ground.chain }, { on := 9, ground := Ground.guard }], guard := some (9, true) }) (v := undef) rfl (by kernel_rfl) (by kernel_rfl) (by kernel_rfl) (fun _ _ _ h => h) (Or.inr ⟨by rfl, rfl⟩) (by assumption) ?_
        simp only [Act.put, List.setIfInBounds_toArray, List.set_cons_zero, List.set_cons_succ]
        refine wpAnyH_take (i := 22) (oi := { dst := some 30, op := Op.binOp BinOp.geq 3 (Operand.tmp 29) (Operand.const (Value.int IntKind.i64 0)) 3, type := 4, pos := "span.go:34", after := #[{ on := 21, ground := Ground.data }, { on := 9, ground := Ground.guard }], guard := some (9, true) }) (v := undef) rfl (by kernel_rfl) (by kernel_rfl) (by kernel_rfl) (fun _ _ _ h => h) (Or.inr ⟨by rfl, rfl⟩) (by assumption) ?_
        simp only [Act.put, List.setIfInBounds_toArray, List.set_cons_zero, List.set_cons_succ]
        refine wpAnyH_take (i := 23) (oi := { dst := some 31, op := Op.pick (Operand.tmp 17) (Operand.tmp 30) (Operand.const (Value.bool false)), type := 4, pos := "span.go:34", after := #[{ on := 9, ground := Ground.data }, { on := 22, ground := Ground.data }, { on := 6, ground := Ground.guard }], guard := some (6, false) }) (v := undef) rfl (by kernel_rfl) (by kernel_rfl) (by kernel_rfl) (fun _ _ _ h => h) (Or.inr ⟨by rfl, rfl⟩) (by assumption) ?_
        simp only [Act.put, List.setIfInBounds_toArray, List.set_cons_zero, List.set_cons_succ]
        refine wpAnyH_take (i := 24) (oi := { dst := some 32, op := Op.pick (Operand.tmp 14) (Operand.const (Value.bool true)) (Operand.tmp 31), type := 4, pos := "span.go:34", after := #[{ on := 6, ground := Ground.data }, { on := 23, ground := Ground.data }], guard := none }) (v := .bool true) rfl (by kernel_rfl) (by kernel_rfl) (by kernel_rfl) (fun _ _ _ h => h) (Or.inl ⟨by rfl, fun w' hS' => by go_simp⟩) (by assumption) ?_
        simp only [Act.put, List.setIfInBounds_toArray, List.set_cons_zero, List.set_cons_succ]
        refine wpAnyH_done (by kernel_rfl) ?_ _
        go_wp2
        go_meet
        exact ⟨by rw [HF.out], HB1.out.trans (B2.out.mono hz1)⟩
      by_cases h0 : k = 0
      · have H0 := Lib.hid h0
        have HF : Hid ((!(goodAt (l.map RSp.sp) k)) = false) := by unfold Hid; rw [HQ.out, decide_eq_true h0]; rfl
        clear h0 HQ
        have B0 := Lib.hid ((Below.refl w1.heap.size w1).drew)
        refine wp_region_held_drew (S := fun w' => SpAt w' g (o + k * 12) s ∧ SpAt w' g (o + j * 12) p) (by kernel_rfl) ⟨HC.out, HD.out⟩ (fun hHeld => ?_)
        refine wpAnyH_take (i := 0) (oi := { dst := some 8, op := Op.move (Operand.tmp 0), type := 22, pos := "span.go:34", after := #[], guard := none }) (v := .slice (some ⟨g, o, none⟩) n c) rfl (by kernel_rfl) (by kernel_rfl) (by kernel_rfl) (fun _ _ _ h => h) (Or.inl ⟨by rfl, fun w' hS' => by go_simp⟩) (by assumption) ?_
        simp only [Act.put, List.setIfInBounds_toArray, List.set_cons_zero, List.set_cons_succ]
        refine wpAnyH_take (i := 1) (oi := { dst := some 9, op := Op.move (Operand.tmp 3), type := 3, pos := "span.go:34", after := #[], guard := none }) (v := .int .i64 (k : Int)) rfl (by kernel_rfl) (by kernel_rfl) (by kernel_rfl) (fun _ _ _ h => h) (Or.inl ⟨by rfl, fun w' hS' => by go_simp⟩) (by assumption) ?_
        simp only [Act.put, List.setIfInBounds_toArray, List.set_cons_zero, List.set_cons_succ]
        refine wpAnyH_take (i := 2) (oi := { dst := some 10, op := Op.indexAddr 22 (Operand.tmp 8) (Operand.tmp 9), type := 0, pos := "span.go:34", after := #[{ on := 0, ground := Ground.data }, { on := 1, ground := Ground.data }], guard := none }) (v := .pointer (some ⟨g, o + k * 12, none⟩)) rfl (by kernel_rfl) (by kernel_rfl) (by kernel_rfl) (fun _ _ _ h => h) (Or.inl ⟨by rfl, fun w' hS' => by go_simp⟩) (by assumption) ?_
        simp only [Act.put, List.setIfInBounds_toArray, List.set_cons_zero, List.set_cons_succ]
        refine wpAnyH_take (i := 3) (oi := { dst := some 11, op := Op.load 37 (Operand.tmp 10), type := 37, pos := "span.go:34", after := #[{ on := 2, ground := Ground.data }], guard := none }) (v := .agg #[.int .i64 s.lo.kind, .int .u64 (s.lo.v.a : Int), .int .u64 (s.lo.v.b : Int), .int .u64 (s.lo.v.c : Int), .slice s.lo.A s.lo.v.pre.length s.lo.c, .slice s.lo.B s.lo.v.build.length s.lo.d, .int .i64 s.hi.kind, .int .u64 (s.hi.v.a : Int), .int .u64 (s.hi.v.b : Int), .int .u64 (s.hi.v.c : Int), .slice s.hi.A s.hi.v.pre.length s.hi.c, .slice s.hi.B s.hi.v.build.length s.hi.d]) rfl (by kernel_rfl) (by kernel_rfl) (by kernel_rfl) (fun _ _ _ h => h) (Or.inl ⟨by rfl, fun w' hS' => by obtain ⟨x0, x1, x2, x3, x4, x5, x6, x7, x8, x9, x10, x11⟩ := hS'.1.cells; go_simp⟩) (by assumption) ?_
        simp only [Act.put, List.setIfInBounds_toArray, List.set_cons_zero, List.set_cons_succ]
        refine wpAnyH_ready (rs := [4]) (by kernel_rfl) (by simp) ?_
        refine AllReadyH.cons (o := { dst := some 12, op := Op.call { callee := Callee.value (Operand.func 31), args := #[Operand.tmp 11], argTypes := #[37] }, type := 4, pos := "span.go:34", after := #[{ on := 3, ground := Ground.data }], guard := none }) rfl (fun K hK => ?_) AllReadyH.nil
        go_simp
        refine (counts_any s _ (HLS.out.kept B0.out)).mono ?_
        rintro e w2 ⟨rfl, hb2⟩
        have B2 := Lib.hid (B0.out.trans (hb2.mono B0.out.size))
        clear hb2 hHeld
        rw [HCN.out]
        refine hK.out _ _ ⟨HC.out.kept B2.out hg, HD.out.kept B2.out hg⟩ (fun hHeld => ?_)
        clear hK K
        try simp only [Act.put, List.setIfInBounds_toArray, List.set_cons_zero, List.set_cons_succ]
        refine wpAnyH_take (i := 5) (oi := { dst := some 13, op := Op.unOp UnOp.not 4 (Operand.tmp 12), type := 4, pos := "span.go:34", after := #[{ on := 4, ground := Ground.data }], guard := none }) (v := .bool false) rfl (by kernel_rfl) (by kernel_rfl) (by kernel_rfl) (fun _ _ _ h => h) (Or.inl ⟨by rfl, fun w' hS' => by go_simp⟩) (by assumption) ?_
        simp only [Act.put, List.setIfInBounds_toArray, List.set_cons_zero, List.set_cons_succ]
        refine wpAnyH_take (i := 6) (oi := { dst := some 14, op := Op.move (Operand.tmp 13), type := 4, pos := "span.go:34", after := #[{ on := 5, ground := Ground.data }, { on := 4, ground := Ground.chain }], guard := none }) (v := .bool false) rfl (by kernel_rfl) (by kernel_rfl) (by kernel_rfl) (fun _ _ _ h => h) (Or.inl ⟨by rfl, fun w' hS' => by go_simp⟩) (by assumption) ?_
        simp only [Act.put, List.setIfInBounds_toArray, List.set_cons_zero, List.set_cons_succ]
        refine wpAnyH_take (i := 7) (oi := { dst := some 15, op := Op.move (Operand.tmp 3), type := 3, pos := "span.go:34", after := #[{ on := 6, ground := Ground.guard }], guard := some (6, false) }) (v := .int .i64 (k : Int)) rfl (by kernel_rfl) (by kernel_rfl) (by kernel_rfl) (fun _ _ _ h => h) (Or.inl ⟨by rfl, fun w' hS' => by go_simp⟩) (by assumption) ?_
        simp only [Act.put, List.setIfInBounds_toArray, List.set_cons_zero, List.set_cons_succ]
        refine wpAnyH_take (i := 8) (oi := { dst := some 16, op := Op.binOp BinOp.gtr 3 (Operand.tmp 15) (Operand.const (Value.int IntKind.i64 0)) 3, type := 4, pos := "span.go:34", after := #[{ on := 7, ground := Ground.data }, { on := 6, ground := Ground.guard }], guard := some (6, false) }) (v := .bool false) rfl (by kernel_rfl) (by kernel_rfl) (by kernel_rfl) (fun _ _ _ h => h) (Or.inl ⟨by rfl, fun w' hS' => by go_simp; exact H0.out⟩) (by assumption) ?_
        simp only [Act.put, List.setIfInBounds_toArray, List.set_cons_zero, List.set_cons_succ]
        refine wpAnyH_take (i := 9) (oi := { dst := some 17, op := Op.move (Operand.tmp 16), type := 4, pos := "span.go:34", after := #[{ on := 8, ground := Ground.data }, { on := 6, ground := Ground.chain }, { on := 6, ground := Ground.guard }], guard := some (6, false) }) (v := .bool false) rfl (by kernel_rfl) (by kernel_rfl) (by kernel_rfl) (fun _ _ _ h => h) (Or.inl ⟨by rfl, fun w' hS' => by go_simp⟩) (by assumption) ?_
        simp only [Act.put, List.setIfInBounds_toArray, List.set_cons_zero, List.set_cons_succ]
        refine wpAnyH_take (i := 10) (oi := { dst := some 18, op := Op.move (Operand.tmp 0), type := 22, pos := "span.go:34", after := #[{ on := 9, ground := Ground.guard }], guard := some (9, true) }) (v := undef) rfl (by kernel_rfl) (by kernel_rfl) (by kernel_rfl) (fun _ _ _ h => h) (Or.inr ⟨by rfl, rfl⟩) (by assumption) ?_
        simp only [Act.put, List.setIfInBounds_toArray, List.set_cons_zero, List.set_cons_succ]
        refine wpAnyH_take (i := 11) (oi := { dst := some 19, op := Op.move (Operand.tmp 3), type := 3, pos := "span.go:34", after := #[{ on := 9, ground := Ground.guard }], guard := some (9, true) }) (v := undef) rfl (by kernel_rfl) (by kernel_rfl) (by kernel_rfl) (fun _ _ _ h => h) (Or.inr ⟨by rfl, rfl⟩) (by assumption) ?_
        simp only [Act.put, List.setIfInBounds_toArray, List.set_cons_zero, List.set_cons_succ]
        refine wpAnyH_take (i := 12) (oi := { dst := some 20, op := Op.binOp BinOp.sub 3 (Operand.tmp 19) (Operand.const (Value.int IntKind.i64 1)) 3, type := 3, pos := "span.go:34", after := #[{ on := 11, ground := Ground.data }, { on := 9, ground := Ground.guard }], guard := some (9, true) }) (v := undef) rfl (by kernel_rfl) (by kernel_rfl) (by kernel_rfl) (fun _ _ _ h => h) (Or.inr ⟨by rfl, rfl⟩) (by assumption) ?_
        simp only [Act.put, List.setIfInBounds_toArray, List.set_cons_zero, List.set_cons_succ]
        refine wpAnyH_take (i := 13) (oi := { dst := some 21, op := Op.indexAddr 22 (Operand.tmp 18) (Operand.tmp 20), type := 0, pos := "span.go:34", after := #[{ on := 10, ground := Ground.data }, { on := 12, ground := Ground.data }, { on := 9, ground := Ground.guard }], guard := some (9, true) }) (v := undef) rfl (by kernel_rfl) (by kernel_rfl) (by kernel_rfl) (fun _ _ _ h => h) (Or.inr ⟨by rfl, rfl⟩) (by assumption) ?_
        simp only [Act.put, List.setIfInBounds_toArray, List.set_cons_zero, List.set_cons_succ]
        refine wpAnyH_take (i := 14) (oi := { dst := some 22, op := Op.fieldAddr 37 (Operand.tmp 21) 1, type := 0, pos := "span.go:34", after := #[{ on := 13, ground := Ground.data }, { on := 9, ground := Ground.guard }], guard := some (9, true) }) (v := undef) rfl (by kernel_rfl) (by kernel_rfl) (by kernel_rfl) (fun _ _ _ h => h) (Or.inr ⟨by rfl, rfl⟩) (by assumption) ?_
        simp only [Act.put, List.setIfInBounds_toArray, List.set_cons_zero, List.set_cons_succ]
        refine wpAnyH_take (i := 15) (oi := { dst := some 23, op := Op.load 35 (Operand.tmp 22), type := 35, pos := "span.go:34", after := #[{ on := 14, ground := Ground.data }, { on := 9, ground := Ground.guard }], guard := some (9, true) }) (v := undef) rfl (by kernel_rfl) (by kernel_rfl) (by kernel_rfl) (fun _ _ _ h => h) (Or.inr ⟨by rfl, rfl⟩) (by assumption) ?_
        simp only [Act.put, List.setIfInBounds_toArray, List.set_cons_zero, List.set_cons_succ]
        refine wpAnyH_take (i := 16) (oi := { dst := some 24, op := Op.move (Operand.tmp 0), type := 22, pos := "span.go:34", after := #[{ on := 9, ground := Ground.guard }], guard := some (9, true) }) (v := undef) rfl (by kernel_rfl) (by kernel_rfl) (by kernel_rfl) (fun _ _ _ h => h) (Or.inr ⟨by rfl, rfl⟩) (by assumption) ?_
        simp only [Act.put, List.setIfInBounds_toArray, List.set_cons_zero, List.set_cons_succ]
        refine wpAnyH_take (i := 17) (oi := { dst := some 25, op := Op.move (Operand.tmp 3), type := 3, pos := "span.go:34", after := #[{ on := 9, ground := Ground.guard }], guard := some (9, true) }) (v := undef) rfl (by kernel_rfl) (by kernel_rfl) (by kernel_rfl) (fun _ _ _ h => h) (Or.inr ⟨by rfl, rfl⟩) (by assumption) ?_
        simp only [Act.put, List.setIfInBounds_toArray, List.set_cons_zero, List.set_cons_succ]
        refine wpAnyH_take (i := 18) (oi := { dst := some 26, op := Op.indexAddr 22 (Operand.tmp 24) (Operand.tmp 25), type := 0, pos := "span.go:34", after := #[{ on := 16, ground := Ground.data }, { on := 17, ground := Ground.data }, { on := 9, ground := Ground.guard }], guard := some (9, true) }) (v := undef) rfl (by kernel_rfl) (by kernel_rfl) (by kernel_rfl) (fun _ _ _ h => h) (Or.inr ⟨by rfl, rfl⟩) (by assumption) ?_
        simp only [Act.put, List.setIfInBounds_toArray, List.set_cons_zero, List.set_cons_succ]
        refine wpAnyH_take (i := 19) (oi := { dst := some 27, op := Op.fieldAddr 37 (Operand.tmp 26) 0, type := 0, pos := "span.go:34", after := #[{ on := 18, ground := Ground.data }, { on := 9, ground := Ground.guard }], guard := some (9, true) }) (v := undef) rfl (by kernel_rfl) (by kernel_rfl) (by kernel_rfl) (fun _ _ _ h => h) (Or.inr ⟨by rfl, rfl⟩) (by assumption) ?_
        simp only [Act.put, List.setIfInBounds_toArray, List.set_cons_zero, List.set_cons_succ]
        refine wpAnyH_take (i := 20) (oi := { dst := some 28, op := Op.load 35 (Operand.tmp 27), type := 35, pos := "span.go:34", after := #[{ on := 19, ground := Ground.data }, { on := 9, ground := Ground.guard }], guard := some (9, true) }) (v := undef) rfl (by kernel_rfl) (by kernel_rfl) (by kernel_rfl) (fun _ _ _ h => h) (Or.inr ⟨by rfl, rfl⟩) (by assumption) ?_
        simp only [Act.put, List.setIfInBounds_toArray, List.set_cons_zero, List.set_cons_succ]
        refine wpAnyH_take (i := 21) (oi := { dst := some 29, op := Op.call { callee := Callee.value (Operand.func 32), args := #[Operand.tmp 23, Operand.tmp 28], argTypes := #[35, 35] }, type := 3, pos := "span.go:34", after := #[{ on := 15, ground := Ground.data }, { on := 20, ground := Ground.data }, { on := 9, ground := Ground.chain }, { on := 9, ground := Ground.guard }], guard := some (9, true) }) (v := undef) rfl (by kernel_rfl) (by kernel_rfl) (by kernel_rfl) (fun _ _ _ h => h) (Or.inr ⟨by rfl, rfl⟩) (by assumption) ?_
        simp only [Act.put, List.setIfInBounds_toArray, List.set_cons_zero, List.set_cons_succ]
        refine wpAnyH_take (i := 22) (oi := { dst := some 30, op := Op.binOp BinOp.geq 3 (Operand.tmp 29) (Operand.const (Value.int IntKind.i64 0)) 3, type := 4, pos := "span.go:34", after := #[{ on := 21, ground := Ground.data }, { on := 9, ground := Ground.guard }], guard := some (9, true) }) (v := undef) rfl (by kernel_rfl) (by kernel_rfl) (by kernel_rfl) (fun _ _ _ h => h) (Or.inr ⟨by rfl, rfl⟩) (by assumption) ?_
        simp only [Act.put, List.setIfInBounds_toArray, List.set_cons_zero, List.set_cons_succ]
        refine wpAnyH_take (i := 23) (oi := { dst := some 31, op := Op.pick (Operand.tmp 17) (Operand.tmp 30) (Operand.const (Value.bool false)), type := 4, pos := "span.go:34", after := #[{ on := 9, ground := Ground.data }, { on := 22, ground := Ground.data }, { on := 6, ground := Ground.guard }], guard := some (6, false) }) (v := .bool false) rfl (by kernel_rfl) (by kernel_rfl) (by kernel_rfl) (fun _ _ _ h => h) (Or.inl ⟨by rfl, fun w' hS' => by go_simp⟩) (by assumption) ?_
        simp only [Act.put, List.setIfInBounds_toArray, List.set_cons_zero, List.set_cons_succ]
        refine wpAnyH_take (i := 24) (oi := { dst := some 32, op := Op.pick (Operand.tmp 14) (Operand.const (Value.bool true)) (Operand.tmp 31), type := 4, pos := "span.go:34", after := #[{ on := 6, ground := Ground.data }, { on := 23, ground := Ground.data }], guard := none }) (v := .bool false) rfl (by kernel_rfl) (by kernel_rfl) (by kernel_rfl) (fun _ _ _ h => h) (Or.inl ⟨by rfl, fun w' hS' => by go_simp⟩) (by assumption) ?_
        simp only [Act.put, List.setIfInBounds_toArray, List.set_cons_zero, List.set_cons_succ]
        refine wpAnyH_done (by kernel_rfl) ?_ _
        go_wp2
        go_meet
        exact ⟨by rw [HF.out], HB1.out.trans (B2.out.mono hz1)⟩
      · have H0 := Lib.hid h0
        have hjk : (k : Int) - 1 = (j : Int) := by omega
        have hjn : j < n := by omega
        have HF : Hid ((!(goodAt (l.map RSp.sp) k)) = decide (0 ≤ stand p.hi.cut s.lo.cut)) := by unfold Hid; rw [HQ.out, decide_eq_false h0, Bool.true_and, Bool.false_or, Bool.eq_iff_iff]; simp
        clear h0 HQ
        have B0 := Lib.hid ((Below.refl w1.heap.size w1).drew)
        refine wp_region_held_drew (S := fun w' => SpAt w' g (o + k * 12) s ∧ SpAt w' g (o + j * 12) p) (by kernel_rfl) ⟨HC.out, HD.out⟩ (fun hHeld => ?_)
        refine wpAnyH_take (i := 0) (oi := { dst := some 8, op := Op.move (Operand.tmp 0), type := 22, pos := "span.go:34", after := #[], guard := none }) (v := .slice (some ⟨g, o, none⟩) n c) rfl (by kernel_rfl) (by kernel_rfl) (by kernel_rfl) (fun _ _ _ h => h) (Or.inl ⟨by rfl, fun w' hS' => by go_simp⟩) (by assumption) ?_
        simp only [Act.put, List.setIfInBounds_toArray, List.set_cons_zero, List.set_cons_succ]
        refine wpAnyH_take (i := 1) (oi := { dst := some 9, op := Op.move (Operand.tmp 3), type := 3, pos := "span.go:34", after := #[], guard := none }) (v := .int .i64 (k : Int)) rfl (by kernel_rfl) (by kernel_rfl) (by kernel_rfl) (fun _ _ _ h => h) (Or.inl ⟨by rfl, fun w' hS' => by go_simp⟩) (by assumption) ?_
        simp only [Act.put, List.setIfInBounds_toArray, List.set_cons_zero, List.set_cons_succ]
        refine wpAnyH_take (i := 2) (oi := { dst := some 10, op := Op.indexAddr 22 (Operand.tmp 8) (Operand.tmp 9), type := 0, pos := "span.go:34", after := #[{ on := 0, ground := Ground.data }, { on := 1, ground := Ground.data }], guard := none }) (v := .pointer (some ⟨g, o + k * 12, none⟩)) rfl (by kernel_rfl) (by kernel_rfl) (by kernel_rfl) (fun _ _ _ h => h) (Or.inl ⟨by rfl, fun w' hS' => by go_simp⟩) (by assumption) ?_
        simp only [Act.put, List.setIfInBounds_toArray, List.set_cons_zero, List.set_cons_succ]
        refine wpAnyH_take (i := 3) (oi := { dst := some 11, op := Op.load 37 (Operand.tmp 10), type := 37, pos := "span.go:34", after := #[{ on := 2, ground := Ground.data }], guard := none }) (v := .agg #[.int .i64 s.lo.kind, .int .u64 (s.lo.v.a : Int), .int .u64 (s.lo.v.b : Int), .int .u64 (s.lo.v.c : Int), .slice s.lo.A s.lo.v.pre.length s.lo.c, .slice s.lo.B s.lo.v.build.length s.lo.d, .int .i64 s.hi.kind, .int .u64 (s.hi.v.a : Int), .int .u64 (s.hi.v.b : Int), .int .u64 (s.hi.v.c : Int), .slice s.hi.A s.hi.v.pre.length s.hi.c, .slice s.hi.B s.hi.v.build.length s.hi.d]) rfl (by kernel_rfl) (by kernel_rfl) (by kernel_rfl) (fun _ _ _ h => h) (Or.inl ⟨by rfl, fun w' hS' => by obtain ⟨x0, x1, x2, x3, x4, x5, x6, x7, x8, x9, x10, x11⟩ := hS'.1.cells; go_simp⟩) (by assumption) ?_
        simp only [Act.put, List.setIfInBounds_toArray, List.set_cons_zero, List.set_cons_succ]
        refine wpAnyH_ready (rs := [4]) (by kernel_rfl) (by simp) ?_
        refine AllReadyH.cons (o := { dst := some 12, op := Op.call { callee := Callee.value (Operand.func 31), args := #[Operand.tmp 11], argTypes := #[37] }, type := 4, pos := "span.go:34", after := #[{ on := 3, ground := Ground.data }], guard := none }) rfl (fun K hK => ?_) AllReadyH.nil
        go_simp
        refine (counts_any s _ (HLS.out.kept B0.out)).mono ?_
        rintro e w2 ⟨rfl, hb2⟩
        have B2 := Lib.hid (B0.out.trans (hb2.mono B0.out.size))
        clear hb2 hHeld
        rw [HCN.out]
        refine hK.out _ _ ⟨HC.out.kept B2.out hg, HD.out.kept B2.out hg⟩ (fun hHeld => ?_)
        clear hK K
        try simp only [Act.put, List.setIfInBounds_toArray, List.set_cons_zero, List.set_cons_succ]
        refine wpAnyH_take (i := 5) (oi := { dst := some 13, op := Op.unOp UnOp.not 4 (Operand.tmp 12), type := 4, pos := "span.go:34", after := #[{ on := 4, ground := Ground.data }], guard := none }) (v := .bool false) rfl (by kernel_rfl) (by kernel_rfl) (by kernel_rfl) (fun _ _ _ h => h) (Or.inl ⟨by rfl, fun w' hS' => by go_simp⟩) (by assumption) ?_
        simp only [Act.put, List.setIfInBounds_toArray, List.set_cons_zero, List.set_cons_succ]
        refine wpAnyH_take (i := 6) (oi := { dst := some 14, op := Op.move (Operand.tmp 13), type := 4, pos := "span.go:34", after := #[{ on := 5, ground := Ground.data }, { on := 4, ground := Ground.chain }], guard := none }) (v := .bool false) rfl (by kernel_rfl) (by kernel_rfl) (by kernel_rfl) (fun _ _ _ h => h) (Or.inl ⟨by rfl, fun w' hS' => by go_simp⟩) (by assumption) ?_
        simp only [Act.put, List.setIfInBounds_toArray, List.set_cons_zero, List.set_cons_succ]
        refine wpAnyH_take (i := 7) (oi := { dst := some 15, op := Op.move (Operand.tmp 3), type := 3, pos := "span.go:34", after := #[{ on := 6, ground := Ground.guard }], guard := some (6, false) }) (v := .int .i64 (k : Int)) rfl (by kernel_rfl) (by kernel_rfl) (by kernel_rfl) (fun _ _ _ h => h) (Or.inl ⟨by rfl, fun w' hS' => by go_simp⟩) (by assumption) ?_
        simp only [Act.put, List.setIfInBounds_toArray, List.set_cons_zero, List.set_cons_succ]
        refine wpAnyH_take (i := 8) (oi := { dst := some 16, op := Op.binOp BinOp.gtr 3 (Operand.tmp 15) (Operand.const (Value.int IntKind.i64 0)) 3, type := 4, pos := "span.go:34", after := #[{ on := 7, ground := Ground.data }, { on := 6, ground := Ground.guard }], guard := some (6, false) }) (v := .bool true) rfl (by kernel_rfl) (by kernel_rfl) (by kernel_rfl) (fun _ _ _ h => h) (Or.inl ⟨by rfl, fun w' hS' => by go_simp; exact Nat.pos_of_ne_zero H0.out⟩) (by assumption) ?_
        simp only [Act.put, List.setIfInBounds_toArray, List.set_cons_zero, List.set_cons_succ]
        refine wpAnyH_take (i := 9) (oi := { dst := some 17, op := Op.move (Operand.tmp 16), type := 4, pos := "span.go:34", after := #[{ on := 8, ground := Ground.data }, { on := 6, ground := Ground.chain }, { on := 6, ground := Ground.guard }], guard := some (6, false) }) (v := .bool true) rfl (by kernel_rfl) (by kernel_rfl) (by kernel_rfl) (fun _ _ _ h => h) (Or.inl ⟨by rfl, fun w' hS' => by go_simp⟩) (by assumption) ?_
        simp only [Act.put, List.setIfInBounds_toArray, List.set_cons_zero, List.set_cons_succ]
        refine wpAnyH_take (i := 10) (oi := { dst := some 18, op := Op.move (Operand.tmp 0), type := 22, pos := "span.go:34", after := #[{ on := 9, ground := Ground.guard }], guard := some (9, true) }) (v := .slice (some ⟨g, o, none⟩) n c) rfl (by kernel_rfl) (by kernel_rfl) (by kernel_rfl) (fun _ _ _ h => h) (Or.inl ⟨by rfl, fun w' hS' => by go_simp⟩) (by assumption) ?_
        simp only [Act.put, List.setIfInBounds_toArray, List.set_cons_zero, List.set_cons_succ]
        refine wpAnyH_take (i := 11) (oi := { dst := some 19, op := Op.move (Operand.tmp 3), type := 3, pos := "span.go:34", after := #[{ on := 9, ground := Ground.guard }], guard := some (9, true) }) (v := .int .i64 (k : Int)) rfl (by kernel_rfl) (by kernel_rfl) (by kernel_rfl) (fun _ _ _ h => h) (Or.inl ⟨by rfl, fun w' hS' => by go_simp⟩) (by assumption) ?_
        simp only [Act.put, List.setIfInBounds_toArray, List.set_cons_zero, List.set_cons_succ]
        refine wpAnyH_take (i := 12) (oi := { dst := some 20, op := Op.binOp BinOp.sub 3 (Operand.tmp 19) (Operand.const (Value.int IntKind.i64 1)) 3, type := 3, pos := "span.go:34", after := #[{ on := 11, ground := Ground.data }, { on := 9, ground := Ground.guard }], guard := some (9, true) }) (v := .int .i64 (j : Int)) rfl (by kernel_rfl) (by kernel_rfl) (by kernel_rfl) (fun _ _ _ h => h) (Or.inl ⟨by rfl, fun w' hS' => by rw [← hjk]; go_simp; rw [IntKind.wrap_i64]; omega⟩) (by assumption) ?_
        simp only [Act.put, List.setIfInBounds_toArray, List.set_cons_zero, List.set_cons_succ]
        refine wpAnyH_take (i := 13) (oi := { dst := some 21, op := Op.indexAddr 22 (Operand.tmp 18) (Operand.tmp 20), type := 0, pos := "span.go:34", after := #[{ on := 10, ground := Ground.data }, { on := 12, ground := Ground.data }, { on := 9, ground := Ground.guard }], guard := some (9, true) }) (v := .pointer (some ⟨g, o + j * 12, none⟩)) rfl (by kernel_rfl) (by kernel_rfl) (by kernel_rfl) (fun _ _ _ h => h) (Or.inl ⟨by rfl, fun w' hS' => by go_simp⟩) (by assumption) ?_
        simp only [Act.put, List.setIfInBounds_toArray, List.set_cons_zero, List.set_cons_succ]
        refine wpAnyH_take (i := 14) (oi := { dst := some 22, op := Op.fieldAddr 37 (Operand.tmp 21) 1, type := 0, pos := "span.go:34", after := #[{ on := 13, ground := Ground.data }, { on := 9, ground := Ground.guard }], guard := some (9, true) }) (v := .pointer (some ⟨g, o + j * 12 + 6, none⟩)) rfl (by kernel_rfl) (by kernel_rfl) (by kernel_rfl) (fun _ _ _ h => h) (Or.inl ⟨by rfl, fun w' hS' => by go_simp⟩) (by assumption) ?_
        simp only [Act.put, List.setIfInBounds_toArray, List.set_cons_zero, List.set_cons_succ]
        refine wpAnyH_take (i := 15) (oi := { dst := some 23, op := Op.load 35 (Operand.tmp 22), type := 35, pos := "span.go:34", after := #[{ on := 14, ground := Ground.data }, { on := 9, ground := Ground.guard }], guard := some (9, true) }) (v := .agg #[.int .i64 p.hi.kind, .int .u64 (p.hi.v.a : Int), .int .u64 (p.hi.v.b : Int), .int .u64 (p.hi.v.c : Int), .slice p.hi.A p.hi.v.pre.length p.hi.c, .slice p.hi.B p.hi.v.build.length p.hi.d]) rfl (by kernel_rfl) (by kernel_rfl) (by kernel_rfl) (fun _ _ _ h => h) (Or.inl ⟨by rfl, fun w' hS' => by obtain ⟨x0, x1, x2, x3, x4, x5, x6, x7, x8, x9, x10, x11⟩ := hS'.2.cells; go_simp⟩) (by assumption) ?_
        simp only [Act.put, List.setIfInBounds_toArray, List.set_cons_zero, List.set_cons_succ]
        refine wpAnyH_take (i := 16) (oi := { dst := some 24, op := Op.move (Operand.tmp 0), type := 22, pos := "span.go:34", after := #[{ on := 9, ground := Ground.guard }], guard := some (9, true) }) (v := .slice (some ⟨g, o, none⟩) n c) rfl (by kernel_rfl) (by kernel_rfl) (by kernel_rfl) (fun _ _ _ h => h) (Or.inl ⟨by rfl, fun w' hS' => by go_simp⟩) (by assumption) ?_
        simp only [Act.put, List.setIfInBounds_toArray, List.set_cons_zero, List.set_cons_succ]
        refine wpAnyH_take (i := 17) (oi := { dst := some 25, op := Op.move (Operand.tmp 3), type := 3, pos := "span.go:34", after := #[{ on := 9, ground := Ground.guard }], guard := some (9, true) }) (v := .int .i64 (k : Int)) rfl (by kernel_rfl) (by kernel_rfl) (by kernel_rfl) (fun _ _ _ h => h) (Or.inl ⟨by rfl, fun w' hS' => by go_simp⟩) (by assumption) ?_
        simp only [Act.put, List.setIfInBounds_toArray, List.set_cons_zero, List.set_cons_succ]
        refine wpAnyH_take (i := 18) (oi := { dst := some 26, op := Op.indexAddr 22 (Operand.tmp 24) (Operand.tmp 25), type := 0, pos := "span.go:34", after := #[{ on := 16, ground := Ground.data }, { on := 17, ground := Ground.data }, { on := 9, ground := Ground.guard }], guard := some (9, true) }) (v := .pointer (some ⟨g, o + k * 12, none⟩)) rfl (by kernel_rfl) (by kernel_rfl) (by kernel_rfl) (fun _ _ _ h => h) (Or.inl ⟨by rfl, fun w' hS' => by go_simp⟩) (by assumption) ?_
        simp only [Act.put, List.setIfInBounds_toArray, List.set_cons_zero, List.set_cons_succ]
        refine wpAnyH_take (i := 19) (oi := { dst := some 27, op := Op.fieldAddr 37 (Operand.tmp 26) 0, type := 0, pos := "span.go:34", after := #[{ on := 18, ground := Ground.data }, { on := 9, ground := Ground.guard }], guard := some (9, true) }) (v := .pointer (some ⟨g, o + k * 12, none⟩)) rfl (by kernel_rfl) (by kernel_rfl) (by kernel_rfl) (fun _ _ _ h => h) (Or.inl ⟨by rfl, fun w' hS' => by go_simp⟩) (by assumption) ?_
        simp only [Act.put, List.setIfInBounds_toArray, List.set_cons_zero, List.set_cons_succ]
        refine wpAnyH_take (i := 20) (oi := { dst := some 28, op := Op.load 35 (Operand.tmp 27), type := 35, pos := "span.go:34", after := #[{ on := 19, ground := Ground.data }, { on := 9, ground := Ground.guard }], guard := some (9, true) }) (v := .agg #[.int .i64 s.lo.kind, .int .u64 (s.lo.v.a : Int), .int .u64 (s.lo.v.b : Int), .int .u64 (s.lo.v.c : Int), .slice s.lo.A s.lo.v.pre.length s.lo.c, .slice s.lo.B s.lo.v.build.length s.lo.d]) rfl (by kernel_rfl) (by kernel_rfl) (by kernel_rfl) (fun _ _ _ h => h) (Or.inl ⟨by rfl, fun w' hS' => by obtain ⟨x0, x1, x2, x3, x4, x5, x6, x7, x8, x9, x10, x11⟩ := hS'.1.cells; go_simp⟩) (by assumption) ?_
        simp only [Act.put, List.setIfInBounds_toArray, List.set_cons_zero, List.set_cons_succ]
        refine wpAnyH_ready (rs := [21]) (by kernel_rfl) (by simp) ?_
        refine AllReadyH.cons (o := { dst := some 29, op := Op.call { callee := Callee.value (Operand.func 32), args := #[Operand.tmp 23, Operand.tmp 28], argTypes := #[35, 35] }, type := 3, pos := "span.go:34", after := #[{ on := 15, ground := Ground.data }, { on := 20, ground := Ground.data }, { on := 9, ground := Ground.chain }, { on := 9, ground := Ground.guard }], guard := some (9, true) }) rfl (fun K hK => ?_) AllReadyH.nil
        go_simp
        refine (stand_any p.hi s.lo _ (HLP.out.kept B2.out).hi (HLS.out.kept B2.out).lo).mono ?_
        rintro e w3 ⟨rfl, hb3⟩
        have B3 := Lib.hid (B2.out.trans (hb3.mono B2.out.size))
        clear hb3 hHeld
        refine hK.out _ _ ⟨HC.out.kept B3.out hg, HD.out.kept B3.out hg⟩ (fun hHeld => ?_)
        clear hK K
        try simp only [Act.put, List.setIfInBounds_toArray, List.set_cons_zero, List.set_cons_succ]
        refine wpAnyH_take (i := 22) (oi := { dst := some 30, op := Op.binOp BinOp.geq 3 (Operand.tmp 29) (Operand.const (Value.int IntKind.i64 0)) 3, type := 4, pos := "span.go:34", after := #[{ on := 21, ground := Ground.data }, { on := 9, ground := Ground.guard }], guard := some (9, true) }) (v := .bool (decide (0 ≤ stand p.hi.cut s.lo.cut))) rfl (by kernel_rfl) (by kernel_rfl) (by kernel_rfl) (fun _ _ _ h => h) (Or.inl ⟨by rfl, fun w' hS' => by go_simp⟩) (by assumption) ?_
        simp only [Act.put, List.setIfInBounds_toArray, List.set_cons_zero, List.set_cons_succ]
        refine wpAnyH_take (i := 23) (oi := { dst := some 31, op := Op.pick (Operand.tmp 17) (Operand.tmp 30) (Operand.const (Value.bool false)), type := 4, pos := "span.go:34", after := #[{ on := 9, ground := Ground.data }, { on := 22, ground := Ground.data }, { on := 6, ground := Ground.guard }], guard := some (6, false) }) (v := .bool (decide (0 ≤ stand p.hi.cut s.lo.cut))) rfl (by kernel_rfl) (by kernel_rfl) (by kernel_rfl) (fun _ _ _ h => h) (Or.inl ⟨by rfl, fun w' hS' => by go_simp⟩) (by assumption) ?_
        simp only [Act.put, List.setIfInBounds_toArray, List.set_cons_zero, List.set_cons_succ]
        refine wpAnyH_take (i := 24) (oi := { dst := some 32, op := Op.pick (Operand.tmp 14) (Operand.const (Value.bool true)) (Operand.tmp 31), type := 4, pos := "span.go:34", after := #[{ on := 6, ground := Ground.data }, { on := 23, ground := Ground.data }], guard := none }) (v := .bool (decide (0 ≤ stand p.hi.cut s.lo.cut))) rfl (by kernel_rfl) (by kernel_rfl) (by kernel_rfl) (fun _ _ _ h => h) (Or.inl ⟨by rfl, fun w' hS' => by go_simp⟩) (by assumption) ?_
        simp only [Act.put, List.setIfInBounds_toArray, List.set_cons_zero, List.set_cons_succ]
        refine wpAnyH_done (by kernel_rfl) ?_ _
        go_wp2
        go_meet
        exact ⟨by rw [HF.out], HB1.out.trans (B3.out.mono hz1)⟩
    case rest =>
      obtain ⟨rfl, hbx⟩ := hcut
      have HBX := Lib.hid hbx; clear hbx
      cases hq : goodAt (l.map RSp.sp) k
      · have HF : Hid (goodS (l.map RSp.sp) = false) := goodS_not (by rw [HLX.out]; exact hlt) hq
        clear hq
        simp only [Bool.not_false]
        go_wp2
        simp only [Exit.jump]
        go_ret
        exact ⟨by rw [HF.out]; rfl, HBX.out⟩
      · have HF : Hid (∀ i, i < k + 1 → goodAt (l.map RSp.sp) i = true) := fun i hi => by
          rcases Nat.lt_or_ge i k with h | h
          · exact HG.out i h
          · rw [show i = k by omega]; exact hq
        clear hq
        simp only [Bool.not_true]
        go_wp2
        go_step3
        rw [show ((k : Int) + 1) = ((k + 1 : Nat) : Int) from rfl]
        refine ⟨rfl, ⟨k + 1, _, _, _, _, _, _, _, _, _, _, _, _, _, _, _, _, _, _, _, _, _, _, _, _, _, _, _, _, _, _, _, HBX.out, hlt, HF.out, rfl⟩, ?_⟩
        simp [GdM, intOf]; omega
  · intro HP
    go_wp2
    go_step3
    rename_i hK
    exact hK _ _ (HP.out _ _ ⟨0, _, _, _, _, _, _, _, _, _, _, _, _, _, _, _, _, _, _, _, _, _, _, _, _, _, _, _, _, _, _, _, Below.refl _ _, by omega, fun i hi => by omega, rfl⟩)
end Go.Proofs.YtdbdeadcffpbfaaGreatDoor.Span

namespace Go.Proofs.YtdbdeadcffpbfaaGreatDoor.Span
open Go.RowKit Num Ident Semver Prec

theorem stand_zero {a b : Cut} (h : stand a b = 0) : a.kind = b.kind ∧ (ofVer a = true → ofVer b = true → cmpV a.v b.v = 0) := by
  unfold stand at h
  by_cases h1 : ofVer a = true ∧ ofVer b = true ∧ cmpV a.v b.v ≠ 0
  · rw [if_pos h1] at h; exact absurd h h1.2.2
  · rw [if_neg h1] at h
    refine ⟨?_, fun h2 h3 => Classical.byContradiction fun h4 => h1 ⟨h2, h3, h4⟩⟩
    rcases ordI_cases a.kind b.kind with ⟨x, y⟩ | ⟨x, y⟩ | ⟨x, y⟩ <;> omega
/-- All cuts of a set are right. -/
def Rights (l : List Sp) : Prop := ∀ s ∈ l, right s.lo = true ∧ right s.hi = true
theorem Norm.rights {l : List Sp} (h : Norm l) : Rights l := fun s hs => ⟨((cnt_iff s).1 (h.cnt s hs)).1, ((cnt_iff s).1 (h.cnt s hs)).2.1⟩
theorem Rights.inR {l : List Sp} (h : Rights l) (c : Cut) : inR l c ↔ inS l c :=
  ⟨fun ⟨s, hs, _, hi⟩ => ⟨s, hs, hi⟩, fun ⟨s, hs, hi⟩ => ⟨s, hs, (cnt_iff s).2 ⟨(h s hs).1, (h s hs).2, le_lt hi.1 hi.2⟩, hi⟩⟩
theorem right_behind {v : Ver} (h : right (aheadOf v) = true) : right (behindOf v) = true := by
  rw [right_ver (.inl rfl)] at h
  rw [right_ver (.inr rfl)]; exact h
theorem hasOne_iff {s : Sp} {v : Ver} (h : right s.lo = true ∧ right s.hi = true) (hv : right (aheadOf v) = true) : hasOne (aheadOf v) (behindOf v) s = true ↔ inOne s (aheadOf v) := by
  unfold hasOne inOne
  rw [Bool.and_eq_true, decide_eq_true_eq, decide_eq_true_eq, cmpC_right h.1 hv, cmpC_right h.2 (right_behind hv), behind_le]
  have := stand_flip s.hi (behindOf v)
  constructor
  · rintro ⟨a, b⟩; exact ⟨a, by omega⟩
  · rintro ⟨a, b⟩; exact ⟨a, by omega⟩
/-- A right version is in a set just if what stands behind its first cut is. -/
theorem has_iff {l : List Sp} {v : Ver} (h : Rights l) (hv : right (aheadOf v) = true) : l.any (hasOne (aheadOf v) (behindOf v)) = true ↔ inS l (aheadOf v) := by
  rw [List.any_eq_true]
  exact ⟨fun ⟨s, hs, hi⟩ => ⟨s, hs, (hasOne_iff (h s hs) hv).1 hi⟩, fun ⟨s, hs, hi⟩ => ⟨s, hs, (hasOne_iff (h s hs) hv).2 hi⟩⟩
theorem Like.zero {l r : List RSp} {n : Nat} (h : Like (l.map RSp.sp) (r.map RSp.sp)) (hl : Rights (l.map RSp.sp)) (hr : Rights (r.map RSp.sp)) (hn : n ≤ l.length) : Zero l r n := by
  have hlen : l.length = r.length := by have := h.length; simpa using this
  intro i hi
  have h1 := h.at i (by rw [List.length_map]; omega)
  have e1 : (l.map RSp.sp).getD i default = (l.getD i default).sp := by simp [List.getD, List.getElem?_eq_getElem (show i < l.length by omega)]
  have e2 : (r.map RSp.sp).getD i default = (r.getD i default).sp := by simp [List.getD, List.getElem?_eq_getElem (show i < r.length by omega)]
  rw [e1, e2] at h1
  have k1 := hl (l.getD i default).sp (List.mem_map_of_mem (getS_mem (by omega)))
  have k2 := hr (r.getD i default).sp (List.mem_map_of_mem (getS_mem (by omega)))
  exact ⟨(cmpC_right k1.1 k2.1).trans h1.1, (cmpC_right k1.2 k2.2).trans h1.2⟩
theorem in_all {l : List Sp} (h : Rights l) {c : Cut} (hc : inS l c) : inOne ⟨low, high⟩ c := by
  obtain ⟨s, hs, h1, h2⟩ := hc
  exact ⟨le_le (low_le (h s hs).1) h1, lt_le h2 (le_high (h s hs).2)⟩
theorem inR_nil (c : Cut) : ¬ inR [] c := fun ⟨s, hs, _⟩ => by cases hs
theorem inS_nil (c : Cut) : ¬ inS [] c := fun ⟨s, hs, _⟩ => by cases hs
theorem inS_one (s : Sp) (c : Cut) : inS [s] c ↔ inOne s c := ⟨fun ⟨x, hx, h⟩ => by rw [List.mem_singleton] at hx; subst hx; exact h, fun h => ⟨s, List.mem_singleton.2 rfl, h⟩⟩
/-- What is normal stays. -/
theorem normal_again {l n n2 : List Sp} (h : NormalOf l n) (h2 : NormalOf n n2) : Like n2 n := unique h2.1 h.1 fun c => (h2.2 c).trans (h.1.inR c)
/-- What isn't in what isn't in it is the set. -/
theorem not_not {n m k : List Sp} (h : Norm n) (h1 : NotOf n m) (h2 : NotOf m k) : Like k n := unique h2.1 h fun c => by
  rw [h2.2 c, h1.1.inR, h1.2 c, h.inR]
  constructor
  · rintro ⟨a, b⟩; exact Classical.byContradiction fun g => b ⟨a, g⟩
  · intro a; exact ⟨in_all h.rights a, fun b => b.2 a⟩
theorem meet_none {n m k : List Sp} (h1 : NotOf n m) (h2 : MeetOf n m k) : k.length = 0 := by
  have := (unique h2.1 Norm.nil fun c => ⟨fun a => by
    obtain ⟨a1, a2⟩ := (h2.2 c).1 a
    rw [h1.1.inR, h1.2 c] at a2
    exact absurd a1 a2.2, fun a => absurd a (inS_nil c)⟩).length
  simpa using this
theorem union_all {n m k a : List Sp} (h : Norm n) (h1 : NotOf n m) (h2 : UnionOf n m k) (h3 : NotOf [] a) : Like k a := unique h2.1 h3.1 fun c => by
  rw [h2.2 c, h3.2 c, h1.1.inR, h1.2 c, h.inR]
  constructor
  · rintro (g | ⟨g, _⟩)
    · exact ⟨in_all h.rights g, inR_nil c⟩
    · exact ⟨g, inR_nil c⟩
  · rintro ⟨g, _⟩
    by_cases k : inS n c
    · exact .inl k
    · exact .inr ⟨g, k⟩
theorem normal_stays {l n : List Sp} (h : NormalOf l n) (hl : Norm l) : Like l n := unique hl h.1 fun c => ((h.2 c).trans (hl.inR c)).symm
/-- All that isn't in nothing. -/
theorem not_none {a : List Sp} (h : NotOf [] a) : Like a [⟨low, high⟩] := unique h.1 all_norm fun c => by
  rw [h.2 c, inS_one]; exact ⟨fun g => g.1, fun g => ⟨g, inR_nil c⟩⟩
theorem low_ahead (v : Ver) : stand low (aheadOf v) < 0 := by
  rw [stand_kind (by rintro ⟨h, _⟩; exact absurd h (by decide))]; exact (show ordI 0 1 < 0 by decide)
theorem behind_high (v : Ver) : stand (behindOf v) high < 0 := by
  rw [stand_kind (by rintro ⟨_, h⟩; exact absurd h (by decide))]; exact (show ordI 2 3 < 0 by decide)
/-- What isn't between the two cuts of a version. -/
theorem beside_norm {v : Ver} (hv : right (aheadOf v) = true) : Norm [⟨low, aheadOf v⟩, ⟨behindOf v, high⟩] := by
  refine ⟨fun s hs => ?_, List.pairwise_cons.2 ⟨fun t ht => ?_, List.pairwise_singleton _ _⟩⟩
  · simp only [List.mem_cons, List.mem_nil_iff, or_false] at hs
    rcases hs with rfl | rfl
    · exact (cnt_iff _).2 ⟨low_right, hv, low_ahead v⟩
    · exact (cnt_iff _).2 ⟨right_behind hv, high_right, behind_high v⟩
  · rw [List.mem_singleton] at ht; subst ht; exact ahead_behind v
theorem one_norm {v : Ver} (hv : right (aheadOf v) = true) : Norm [⟨aheadOf v, behindOf v⟩] :=
  ⟨fun s hs => by rw [List.mem_singleton] at hs; subst hs; exact (cnt_iff _).2 ⟨hv, right_behind hv, ahead_behind v⟩, List.pairwise_singleton _ _⟩
theorem not_one {v : Ver} (hv : right (aheadOf v) = true) {p q : List Sp} (hp : Like p [⟨aheadOf v, behindOf v⟩]) (hpn : Norm p) (h : NotOf p q) : Like q [⟨low, aheadOf v⟩, ⟨behindOf v, high⟩] := by
  refine unique h.1 (beside_norm hv) fun c => ?_
  rw [h.2 c, hpn.inR]
  have hin : inS p c ↔ inOne ⟨aheadOf v, behindOf v⟩ c := by
    cases hp with
    | cons e1 e2 h3 =>
      cases h3
      rw [inS_one]
      constructor
      · rintro ⟨a, b⟩; exact ⟨le_le (show stand (aheadOf v) _ ≤ 0 by have := like_flip e1; simp only at this; omega) a, lt_le b (show stand _ (behindOf v) ≤ 0 by simp only at e2; omega)⟩
      · rintro ⟨a, b⟩; exact ⟨le_le (show stand _ (aheadOf v) ≤ 0 by simp only at e1; omega) a, lt_le b (show stand (behindOf v) _ ≤ 0 by have := like_flip e2; simp only at this; omega)⟩
  rw [hin]
  constructor
  · rintro ⟨a, b⟩
    by_cases g : stand (aheadOf v) c ≤ 0
    · exact ⟨_, List.mem_cons_of_mem _ (List.mem_singleton.2 rfl), not_lt fun k => b ⟨g, k⟩, a.2⟩
    · exact ⟨_, List.mem_cons_self .., a.1, not_le g⟩
  · rintro ⟨s, hs, a, b⟩
    simp only [List.mem_cons, List.mem_nil_iff, or_false] at hs
    rcases hs with rfl | rfl
    · exact ⟨⟨a, lt_lt b (lt_lt (ahead_behind v) (behind_high v))⟩, fun k => le_not k.1 b⟩
    · exact ⟨⟨le_le (show stand low (behindOf v) ≤ 0 by have := lt_lt (low_ahead v) (ahead_behind v); omega) a, b⟩, fun k => le_not a k.2⟩
theorem Like.self {l : List Sp} : Like l l := by
  induction l with
  | nil => exact Like.nil
  | cons s l ih => exact Like.cons (stand_self _) (stand_self _) ih
theorem v100 : right (aheadOf ⟨1, 0, 0, [], []⟩) = true := by decide
end Go.Proofs.YtdbdeadcffpbfaaGreatDoor.Span

namespace Go.Proofs.YtdbdeadcffpbfaaGreatDoor.Span
open Go.RowKit Num Ident Semver Prec

theorem veInfo : (Tryz.prog.info? 32).map (fun i => (i.zero, i.size, i.bytes)) = some (some (.agg #[.int .u64 0, .int .u64 0, .int .u64 0, .slice none 0 0, .slice none 0 0]), 5, 72) := by kernel_rfl
theorem wpList_append_ve (w : World) {ops : Array Oper} {rest : List Oper} {o : Oper} {a : Act} {Q : Exit → Act → World → Prop} (hgd : o.guard = none) (s x : Operand)
    (ho : o.op = .call { callee := .builtin .append, args := #[s, x], argTypes := #[42, 42] })
    (base : Nat) (hs : a.eval s = .slice none 0 0) (ad : Addr) (vals : List Value) (hlen : vals.length = 5) (hone : ∀ u ∈ vals, u.oneCell' = true) (hx : a.eval x = .slice (some ad) 1 1) (hnews : ∀ j u, vals[j]? = some u → w.cell? (ad.add j) = some u) (hbase : base ≤ w.heap.size)
    (h : ∀ P c w', Below base w w' → wpList Tryz.prog ops Q rest (a.put o.dst (.slice P 1 c)) w') : wpList Tryz.prog ops Q (o :: rest) a w := by
  obtain ⟨i, hi, hz, hsz, hby⟩ := info_parts veInfo
  have hown : w.ownsRow base 32 5 (.slice none 0 0) 0 [] := World.ownsRow_nil _ _ _ _
  refine wpList_append_own w hgd s x 42 ho base 32 i _ 5 72 Tryz.underlying42 hi hz hsz hby rfl (by omega) _ 0 _ hs hown ad 1 1 _ hx (by rw [hlen]) hnews hone (by unfold maxLen; omega) (by omega) hbase (fun v' w' h2 h3 _ => ?_)
  have hb : Below base w w' := (Below.refl base w).grown h3 hbase fun k hk => (hown.lt k hk).1
  rcases h2.2 with ⟨_, h4⟩ | ⟨g, cap, cur, rfl, _⟩
  · omega
  · exact h _ _ w' hb
theorem put_val {K : Act → World → Prop} {a : Act} {d : Option Nat} {v v' : Value} {w : World} (h : v = v') (hk : K (a.put d v') w) : K (a.put d v) w := h ▸ hk
def PtJ (w : World) (v i : Value) (W : World) : Prop := Below w.heap.size w W ∧ ((i = .int .i64 1 ∧ v = .slice none 0 0) ∨ (i = .int .i64 2 ∧ ∃ P c, v = .slice P 1 c))
set_option maxRecDepth 100000 in
set_option maxHeartbeats 6400000 in
theorem points_two (A : Option Addr) (c : Nat) (s t : RSp) (w : World) (hr : SpRow w A 2 [s, t]) (hg : goodS [s.sp, t.sp] = true) (hq : cmpV s.hi.v t.lo.v = 0) (hp : s.hi.v.pre.length ≤ 1000) :
    Calls Tryz.prog 18 #[.slice A 2 c] w fun e w' => ∃ P cp, e = .returned (.slice P 1 cp) ∧ Below w.heap.size w w' := by
  have HR := Lib.hid hr
  have HG := Lib.hid hg
  have HQ := Lib.hid hq
  obtain ⟨b, o, rfl, hb, hc⟩ := hr.2.2 (by omega)
  have HC : Hid (SpAt w b (o + 0 * 12) s) := hc 0 (by omega)
  have HD : Hid (SpAt w b (o + 1 * 12) t) := hc 1 (by omega)
  have HLS : Hid (LiesS w s) := hr.2.1 s (by simp)
  have HLT : Hid (LiesS w t) := hr.2.1 t (by simp)
  clear hr hg hq hc
  go_enter Tryz.func18, Tryz.ntmps18
  go_wp2_with fail
  refine (goodS_any _ 2 c [s, t] _ HR.out (by omega)).mono ?_
  rintro e w1 ⟨he, hb1⟩
  rw [show goodS ([s, t].map RSp.sp) = true from HG.out] at he
  subst he
  have HB1 := Lib.hid hb1
  clear hb1
  go_wp2
  go_loopw [3, 4] (fun v i W => PtJ w v i W) (fun _ i _ => 2 - (intOf i).toNat)
  case atStart => exact ⟨HB1.out, .inl ⟨rfl, rfl⟩⟩
  case round =>
    obtain ⟨hbel, ⟨rfl, rfl⟩ | ⟨rfl, P, cp, rfl⟩⟩ := hrel
    · have HB := Lib.hid hbel
      have hsz := hbel.size
      have hbr : b < wr.heap.size := Nat.lt_of_lt_of_le hb hsz
      clear hbel
      have C1 : Hid (SpAt wr b (o + 0 * 12) s) := HC.out.kept HB.out hb
      have D1 : Hid (SpAt wr b (o + 1 * 12) t) := HD.out.kept HB.out hb
      obtain ⟨p0, p1, p2, p3, p4, p5, p6, p7, p8, p9, p10, p11⟩ := C1.out.cells
      obtain ⟨q0, q1, q2, q3, q4, q5, q6, q7, q8, q9, q10, q11⟩ := D1.out.cells
      simp only [Nat.zero_mul, Nat.one_mul, Nat.add_zero] at p0 p1 p2 p3 p4 p5 p6 p7 p8 p9 p10 p11 q0 q1 q2 q3 q4 q5 q6 q7 q8 q9 q10 q11
      go_upto_region 7 with (fail)
      go_region
      · have HBX : Hid (Below w.heap.size w ((wr.alloc (.cells #[.int .i64 s.hi.kind, .int .u64 (s.hi.v.a : Int), .int .u64 (s.hi.v.b : Int), .int .u64 (s.hi.v.c : Int), .slice s.hi.A s.hi.v.pre.length s.hi.c, .slice s.hi.B s.hi.v.build.length s.hi.d] 35)).alloc (.cells #[.int .i64 t.lo.kind, .int .u64 (t.lo.v.a : Int), .int .u64 (t.lo.v.b : Int), .int .u64 (t.lo.v.c : Int), .slice t.lo.A t.lo.v.pre.length t.lo.c, .slice t.lo.B t.lo.v.build.length t.lo.d] 35)).drew) := ((HB.out.alloc hsz _).alloc (Nat.le_trans hsz (by simp)) _).drew
        have A1 : Hid (Below wr.heap.size wr ((wr.alloc (.cells #[.int .i64 s.hi.kind, .int .u64 (s.hi.v.a : Int), .int .u64 (s.hi.v.b : Int), .int .u64 (s.hi.v.c : Int), .slice s.hi.A s.hi.v.pre.length s.hi.c, .slice s.hi.B s.hi.v.build.length s.hi.d] 35)).alloc (.cells #[.int .i64 t.lo.kind, .int .u64 (t.lo.v.a : Int), .int .u64 (t.lo.v.b : Int), .int .u64 (t.lo.v.c : Int), .slice t.lo.A t.lo.v.pre.length t.lo.c, .slice t.lo.B t.lo.v.build.length t.lo.d] 35)).drew) := (((Below.refl _ _).alloc (Nat.le_refl _) _).alloc (by simp) _).drew
        have K1 : Hid (At6B ((wr.alloc (.cells #[.int .i64 s.hi.kind, .int .u64 (s.hi.v.a : Int), .int .u64 (s.hi.v.b : Int), .int .u64 (s.hi.v.c : Int), .slice s.hi.A s.hi.v.pre.length s.hi.c, .slice s.hi.B s.hi.v.build.length s.hi.d] 35)).alloc (.cells #[.int .i64 t.lo.kind, .int .u64 (t.lo.v.a : Int), .int .u64 (t.lo.v.b : Int), .int .u64 (t.lo.v.c : Int), .slice t.lo.A t.lo.v.pre.length t.lo.c, .slice t.lo.B t.lo.v.build.length t.lo.d] 35)).drew wr.heap.size (.int .i64 s.hi.kind) (.int .u64 (s.hi.v.a : Int)) (.int .u64 (s.hi.v.b : Int)) (.int .u64 (s.hi.v.c : Int)) (.slice s.hi.A s.hi.v.pre.length s.hi.c) (.slice s.hi.B s.hi.v.build.length s.hi.d)) := by
          have q := (At6B.new wr 35 (.int .i64 s.hi.kind) (.int .u64 (s.hi.v.a : Int)) (.int .u64 (s.hi.v.b : Int)) (.int .u64 (s.hi.v.c : Int)) (.slice s.hi.A s.hi.v.pre.length s.hi.c) (.slice s.hi.B s.hi.v.build.length s.hi.d)).kept ((Below.refl _ _).alloc (Nat.le_refl _) (.cells #[.int .i64 t.lo.kind, .int .u64 (t.lo.v.a : Int), .int .u64 (t.lo.v.b : Int), .int .u64 (t.lo.v.c : Int), .slice t.lo.A t.lo.v.pre.length t.lo.c, .slice t.lo.B t.lo.v.build.length t.lo.d] 35)) (by simp)
          exact q
        have J1 : Hid (At6B ((wr.alloc (.cells #[.int .i64 s.hi.kind, .int .u64 (s.hi.v.a : Int), .int .u64 (s.hi.v.b : Int), .int .u64 (s.hi.v.c : Int), .slice s.hi.A s.hi.v.pre.length s.hi.c, .slice s.hi.B s.hi.v.build.length s.hi.d] 35)).alloc (.cells #[.int .i64 t.lo.kind, .int .u64 (t.lo.v.a : Int), .int .u64 (t.lo.v.b : Int), .int .u64 (t.lo.v.c : Int), .slice t.lo.A t.lo.v.pre.length t.lo.c, .slice t.lo.B t.lo.v.build.length t.lo.d] 35)).drew (wr.heap.size + 1) (.int .i64 t.lo.kind) (.int .u64 (t.lo.v.a : Int)) (.int .u64 (t.lo.v.b : Int)) (.int .u64 (t.lo.v.c : Int)) (.slice t.lo.A t.lo.v.pre.length t.lo.c) (.slice t.lo.B t.lo.v.build.length t.lo.d)) := by
          have q := At6B.new (wr.alloc (.cells #[.int .i64 s.hi.kind, .int .u64 (s.hi.v.a : Int), .int .u64 (s.hi.v.b : Int), .int .u64 (s.hi.v.c : Int), .slice s.hi.A s.hi.v.pre.length s.hi.c, .slice s.hi.B s.hi.v.build.length s.hi.d] 35)) 35 (.int .i64 t.lo.kind) (.int .u64 (t.lo.v.a : Int)) (.int .u64 (t.lo.v.b : Int)) (.int .u64 (t.lo.v.c : Int)) (.slice t.lo.A t.lo.v.pre.length t.lo.c) (.slice t.lo.B t.lo.v.build.length t.lo.d)
          rw [size_alloc] at q; exact q
        generalize ((wr.alloc (.cells #[.int .i64 s.hi.kind, .int .u64 (s.hi.v.a : Int), .int .u64 (s.hi.v.b : Int), .int .u64 (s.hi.v.c : Int), .slice s.hi.A s.hi.v.pre.length s.hi.c, .slice s.hi.B s.hi.v.build.length s.hi.d] 35)).alloc (.cells #[.int .i64 t.lo.kind, .int .u64 (t.lo.v.a : Int), .int .u64 (t.lo.v.b : Int), .int .u64 (t.lo.v.c : Int), .slice t.lo.A t.lo.v.pre.length t.lo.c, .slice t.lo.B t.lo.v.build.length t.lo.d] 35)).drew = W at HBX A1 K1 J1 ⊢
        have LS := Lib.hid (HLS.out.kept HBX.out)
        have LT := Lib.hid (HLT.out.kept HBX.out)
        clear p0 p1 p2 p3 p4 p5 p6 p7 p8 p9 p10 p11 q0 q1 q2 q3 q4 q5 q6 q7 q8 q9 q10 q11
        obtain ⟨hz1, _, x0, x1, x2, x3, x4, x5⟩ := K1.out
        obtain ⟨_, _, y0, y1, y2, y3, y4, y5⟩ := J1.out
        go_wp2_with fail
        refine (Prec.compare_any s.hi.v t.lo.v _ _ _ _ _ _ _ _ _ LS.out.hi.pre LT.out.lo.pre LS.out.hi.fpre LT.out.lo.fpre).mono ?_
        rintro e w2 ⟨he, hb2⟩
        rw [HQ.out] at he
        subst he
        have K2 := Lib.hid (K1.out.kept hb2 hz1)
        have B2 := Lib.hid (HBX.out.trans (hb2.mono HBX.out.size))
        have LS2 := Lib.hid (LS.out.kept hb2)
        clear hb2 hz1 x0 x1 x2 x3 x4 x5 y0 y1 y2 y3 y4 y5
        obtain ⟨hz2, _, x0, x1, x2, x3, x4, x5⟩ := K2.out
        go_wp2_with fail
        refine (copied_any s.hi _ LS2.out.hi hp).mono ?_
        rintro e w3 ⟨r, rfl, hr3, ho3, hb3⟩
        have B3 := Lib.hid (B2.out.trans (hb3.mono B2.out.size))
        have B4 := Lib.hid (B3.out.alloc B3.out.size (.cells #[.int .u64 (r.v.a : Int), .int .u64 (r.v.b : Int), .int .u64 (r.v.c : Int), .slice r.A r.v.pre.length r.c, .slice r.B r.v.build.length r.d] 32))
        have hz3 := B4.out.size
        have HNW := Lib.hid (news_new w3 [.int .u64 (r.v.a : Int), .int .u64 (r.v.b : Int), .int .u64 (r.v.c : Int), .slice r.A r.v.pre.length r.c, .slice r.B r.v.build.length r.d] 32)
        clear hb3 ho3 hr3 hz2 x0 x1 x2 x3 x4 x5
        go_wp2_with fail
        refine put_val (v' := .agg #[.int .u64 (r.v.a : Int), .int .u64 (r.v.b : Int), .int .u64 (r.v.c : Int), .slice r.A r.v.pre.length r.c, .slice r.B r.v.build.length r.d]) (by kernel_rfl) ?_
        go_wp2_with (first
          | (at_builtin; refine wpList_append_ve _ rfl _ _ rfl w.heap.size rfl ⟨w3.heap.size, 0, none⟩ [.int .u64 (r.v.a : Int), .int .u64 (r.v.b : Int), .int .u64 (r.v.c : Int), .slice r.A r.v.pre.length r.c, .slice r.B r.v.build.length r.d] rfl (fun u hu => by simp only [List.mem_cons, List.mem_nil_iff, or_false] at hu; rcases hu with rfl | rfl | rfl | rfl | rfl <;> rfl) rfl HNW.out hz3 ?_; intro P4 c4 w4 hb4; have HB4 := Lib.hid (B4.out.trans hb4); clear hb4)
          | fail)
        exact ⟨⟨HB4.out, .inr ⟨by go_num, P4, c4, rfl⟩⟩, by simp [intOf]⟩
      · have HBX : Hid (Below w.heap.size w ((wr.alloc (.cells #[.int .i64 t.lo.kind, .int .u64 (t.lo.v.a : Int), .int .u64 (t.lo.v.b : Int), .int .u64 (t.lo.v.c : Int), .slice t.lo.A t.lo.v.pre.length t.lo.c, .slice t.lo.B t.lo.v.build.length t.lo.d] 35)).alloc (.cells #[.int .i64 s.hi.kind, .int .u64 (s.hi.v.a : Int), .int .u64 (s.hi.v.b : Int), .int .u64 (s.hi.v.c : Int), .slice s.hi.A s.hi.v.pre.length s.hi.c, .slice s.hi.B s.hi.v.build.length s.hi.d] 35)).drew) := ((HB.out.alloc hsz _).alloc (Nat.le_trans hsz (by simp)) _).drew
        have A1 : Hid (Below wr.heap.size wr ((wr.alloc (.cells #[.int .i64 t.lo.kind, .int .u64 (t.lo.v.a : Int), .int .u64 (t.lo.v.b : Int), .int .u64 (t.lo.v.c : Int), .slice t.lo.A t.lo.v.pre.length t.lo.c, .slice t.lo.B t.lo.v.build.length t.lo.d] 35)).alloc (.cells #[.int .i64 s.hi.kind, .int .u64 (s.hi.v.a : Int), .int .u64 (s.hi.v.b : Int), .int .u64 (s.hi.v.c : Int), .slice s.hi.A s.hi.v.pre.length s.hi.c, .slice s.hi.B s.hi.v.build.length s.hi.d] 35)).drew) := (((Below.refl _ _).alloc (Nat.le_refl _) _).alloc (by simp) _).drew
        have K1 : Hid (At6B ((wr.alloc (.cells #[.int .i64 t.lo.kind, .int .u64 (t.lo.v.a : Int), .int .u64 (t.lo.v.b : Int), .int .u64 (t.lo.v.c : Int), .slice t.lo.A t.lo.v.pre.length t.lo.c, .slice t.lo.B t.lo.v.build.length t.lo.d] 35)).alloc (.cells #[.int .i64 s.hi.kind, .int .u64 (s.hi.v.a : Int), .int .u64 (s.hi.v.b : Int), .int .u64 (s.hi.v.c : Int), .slice s.hi.A s.hi.v.pre.length s.hi.c, .slice s.hi.B s.hi.v.build.length s.hi.d] 35)).drew wr.heap.size (.int .i64 t.lo.kind) (.int .u64 (t.lo.v.a : Int)) (.int .u64 (t.lo.v.b : Int)) (.int .u64 (t.lo.v.c : Int)) (.slice t.lo.A t.lo.v.pre.length t.lo.c) (.slice t.lo.B t.lo.v.build.length t.lo.d)) := by
          have q := (At6B.new wr 35 (.int .i64 t.lo.kind) (.int .u64 (t.lo.v.a : Int)) (.int .u64 (t.lo.v.b : Int)) (.int .u64 (t.lo.v.c : Int)) (.slice t.lo.A t.lo.v.pre.length t.lo.c) (.slice t.lo.B t.lo.v.build.length t.lo.d)).kept ((Below.refl _ _).alloc (Nat.le_refl _) (.cells #[.int .i64 s.hi.kind, .int .u64 (s.hi.v.a : Int), .int .u64 (s.hi.v.b : Int), .int .u64 (s.hi.v.c : Int), .slice s.hi.A s.hi.v.pre.length s.hi.c, .slice s.hi.B s.hi.v.build.length s.hi.d] 35)) (by simp)
          exact q
        have J1 : Hid (At6B ((wr.alloc (.cells #[.int .i64 t.lo.kind, .int .u64 (t.lo.v.a : Int), .int .u64 (t.lo.v.b : Int), .int .u64 (t.lo.v.c : Int), .slice t.lo.A t.lo.v.pre.length t.lo.c, .slice t.lo.B t.lo.v.build.length t.lo.d] 35)).alloc (.cells #[.int .i64 s.hi.kind, .int .u64 (s.hi.v.a : Int), .int .u64 (s.hi.v.b : Int), .int .u64 (s.hi.v.c : Int), .slice s.hi.A s.hi.v.pre.length s.hi.c, .slice s.hi.B s.hi.v.build.length s.hi.d] 35)).drew (wr.heap.size + 1) (.int .i64 s.hi.kind) (.int .u64 (s.hi.v.a : Int)) (.int .u64 (s.hi.v.b : Int)) (.int .u64 (s.hi.v.c : Int)) (.slice s.hi.A s.hi.v.pre.length s.hi.c) (.slice s.hi.B s.hi.v.build.length s.hi.d)) := by
          have q := At6B.new (wr.alloc (.cells #[.int .i64 t.lo.kind, .int .u64 (t.lo.v.a : Int), .int .u64 (t.lo.v.b : Int), .int .u64 (t.lo.v.c : Int), .slice t.lo.A t.lo.v.pre.length t.lo.c, .slice t.lo.B t.lo.v.build.length t.lo.d] 35)) 35 (.int .i64 s.hi.kind) (.int .u64 (s.hi.v.a : Int)) (.int .u64 (s.hi.v.b : Int)) (.int .u64 (s.hi.v.c : Int)) (.slice s.hi.A s.hi.v.pre.length s.hi.c) (.slice s.hi.B s.hi.v.build.length s.hi.d)
          rw [size_alloc] at q; exact q
        generalize ((wr.alloc (.cells #[.int .i64 t.lo.kind, .int .u64 (t.lo.v.a : Int), .int .u64 (t.lo.v.b : Int), .int .u64 (t.lo.v.c : Int), .slice t.lo.A t.lo.v.pre.length t.lo.c, .slice t.lo.B t.lo.v.build.length t.lo.d] 35)).alloc (.cells #[.int .i64 s.hi.kind, .int .u64 (s.hi.v.a : Int), .int .u64 (s.hi.v.b : Int), .int .u64 (s.hi.v.c : Int), .slice s.hi.A s.hi.v.pre.length s.hi.c, .slice s.hi.B s.hi.v.build.length s.hi.d] 35)).drew = W at HBX A1 K1 J1 ⊢
        have LS := Lib.hid (HLS.out.kept HBX.out)
        have LT := Lib.hid (HLT.out.kept HBX.out)
        clear p0 p1 p2 p3 p4 p5 p6 p7 p8 p9 p10 p11 q0 q1 q2 q3 q4 q5 q6 q7 q8 q9 q10 q11
        obtain ⟨hz1, _, x0, x1, x2, x3, x4, x5⟩ := J1.out
        obtain ⟨_, _, y0, y1, y2, y3, y4, y5⟩ := K1.out
        go_wp2_with fail
        refine (Prec.compare_any s.hi.v t.lo.v _ _ _ _ _ _ _ _ _ LS.out.hi.pre LT.out.lo.pre LS.out.hi.fpre LT.out.lo.fpre).mono ?_
        rintro e w2 ⟨he, hb2⟩
        rw [HQ.out] at he
        subst he
        have K2 := Lib.hid (J1.out.kept hb2 hz1)
        have B2 := Lib.hid (HBX.out.trans (hb2.mono HBX.out.size))
        have LS2 := Lib.hid (LS.out.kept hb2)
        clear hb2 hz1 x0 x1 x2 x3 x4 x5 y0 y1 y2 y3 y4 y5
        obtain ⟨hz2, _, x0, x1, x2, x3, x4, x5⟩ := K2.out
        go_wp2_with fail
        refine (copied_any s.hi _ LS2.out.hi hp).mono ?_
        rintro e w3 ⟨r, rfl, hr3, ho3, hb3⟩
        have B3 := Lib.hid (B2.out.trans (hb3.mono B2.out.size))
        have B4 := Lib.hid (B3.out.alloc B3.out.size (.cells #[.int .u64 (r.v.a : Int), .int .u64 (r.v.b : Int), .int .u64 (r.v.c : Int), .slice r.A r.v.pre.length r.c, .slice r.B r.v.build.length r.d] 32))
        have hz3 := B4.out.size
        have HNW := Lib.hid (news_new w3 [.int .u64 (r.v.a : Int), .int .u64 (r.v.b : Int), .int .u64 (r.v.c : Int), .slice r.A r.v.pre.length r.c, .slice r.B r.v.build.length r.d] 32)
        clear hb3 ho3 hr3 hz2 x0 x1 x2 x3 x4 x5
        go_wp2_with fail
        refine put_val (v' := .agg #[.int .u64 (r.v.a : Int), .int .u64 (r.v.b : Int), .int .u64 (r.v.c : Int), .slice r.A r.v.pre.length r.c, .slice r.B r.v.build.length r.d]) (by kernel_rfl) ?_
        go_wp2_with (first
          | (at_builtin; refine wpList_append_ve _ rfl _ _ rfl w.heap.size rfl ⟨w3.heap.size, 0, none⟩ [.int .u64 (r.v.a : Int), .int .u64 (r.v.b : Int), .int .u64 (r.v.c : Int), .slice r.A r.v.pre.length r.c, .slice r.B r.v.build.length r.d] rfl (fun u hu => by simp only [List.mem_cons, List.mem_nil_iff, or_false] at hu; rcases hu with rfl | rfl | rfl | rfl | rfl <;> rfl) rfl HNW.out hz3 ?_; intro P4 c4 w4 hb4; have HB4 := Lib.hid (B4.out.trans hb4); clear hb4)
          | fail)
        exact ⟨⟨HB4.out, .inr ⟨by go_num, P4, c4, rfl⟩⟩, by simp [intOf]⟩
    · go_wp2
      go_ret
      exact ⟨P, cp, rfl, hbel⟩
end Go.Proofs.YtdbdeadcffpbfaaGreatDoor.Span

namespace Go.Proofs.YtdbdeadcffpbfaaGreatDoor.Span
open Go.RowKit Num Ident Semver Prec

def FewPost (n : Nat) (w : World) (e : Ending) (w' : World) : Prop := ∃ b : Bool, e = .returned (.bool b) ∧ (b = true → n ≤ 12) ∧ w = w'
set_option maxRecDepth 100000 in
set_option maxHeartbeats 3200000 in
theorem few_any (A : Option Addr) (n c : Nat) (l : List RSp) (w : World) (hr : SpRow w A n l) (hn : n ≤ maxLen) :
    Calls Tryz.prog 7 #[.slice A n c] w (FewPost n w) := by
  unfold maxLen at hn
  have HR := Lib.hid hr
  clear hr
  by_cases h0 : 12 < n
  · go_enter Tryz.func7, Tryz.ntmps7
    go_wp2
    go_ret
    exact ⟨false, rfl, (fun h => by cases h), rfl⟩
  · go_enter Tryz.func7, Tryz.ntmps7
    go_wp2
    go_loop [3] (fun i => ∃ k : Nat, k ≤ n ∧ i = .int .i64 k) (fun i => n - (intOf i).toNat)
    case atStart => exact ⟨0, Nat.zero_le _, rfl⟩
    case round =>
      obtain ⟨k, hk, rfl⟩ := hrel
      by_cases hlt : k < n
      · obtain ⟨b, o, rfl, hb, hc⟩ := HR.out.2.2 (by omega)
        obtain ⟨x0, x1, x2, x3, x4, x5, x6, x7, x8, x9, x10, x11⟩ := SpRow.cells hc hlt
        have HL := Lib.hid (HR.out.lies hlt)
        have m1 : (l.getD k default).lo.v.pre.length ≤ 9223372036854775807 := HL.out.lo.fpre.1
        have m2 : (l.getD k default).hi.v.pre.length ≤ 9223372036854775807 := HL.out.hi.fpre.1
        have m3 : (l.getD k default).lo.v.build.length ≤ 9223372036854775807 := HL.out.lo.fbuild.1
        have m4 : (l.getD k default).hi.v.build.length ≤ 9223372036854775807 := HL.out.hi.fbuild.1
        clear hc HL
        generalize l.getD k default = s at x0 x1 x2 x3 x4 x5 x6 x7 x8 x9 x10 x11 m1 m2 m3 m4
        by_cases h1 : 20 < s.lo.v.pre.length
        · go_wp2
          go_ret
          exact ⟨false, rfl, (fun h => by cases h), rfl⟩
        by_cases h2 : 20 < s.hi.v.pre.length
        · go_wp2
          go_ret
          exact ⟨false, rfl, (fun h => by cases h), rfl⟩
        by_cases h3 : 20 < s.lo.v.build.length
        · go_wp2
          go_ret
          exact ⟨false, rfl, (fun h => by cases h), rfl⟩
        by_cases h4 : 20 < s.hi.v.build.length
        · go_wp2
          go_ret
          exact ⟨false, rfl, (fun h => by cases h), rfl⟩
        go_wp2
        go_round
        case rel => exact ⟨k + 1, by omega, by go_num⟩
        case measure => simp [intOf]; omega
      · go_wp2
        go_ret
        exact ⟨true, rfl, (fun _ => by omega), rfl⟩
end Go.Proofs.YtdbdeadcffpbfaaGreatDoor.Span

namespace Go.Proofs.YtdbdeadcffpbfaaGreatDoor.Span
open Go.RowKit Num Ident Semver Prec

theorem like_one {l : List RSp} {t : Sp} (h : Like (l.map RSp.sp) [t]) : ∃ s, l = [s] ∧ stand s.lo.cut t.lo = 0 ∧ stand s.hi.cut t.hi = 0 := by
  match l, h with
  | [], h => cases h
  | [s], .cons h1 h2 _ => exact ⟨s, rfl, h1, h2⟩
  | _ :: _ :: _, .cons _ _ h => cases h
theorem like_two {l : List RSp} {t u : Sp} (h : Like (l.map RSp.sp) [t, u]) : ∃ s r, l = [s, r] ∧ stand s.lo.cut t.lo = 0 ∧ stand s.hi.cut t.hi = 0 ∧ stand r.lo.cut u.lo = 0 ∧ stand r.hi.cut u.hi = 0 := by
  match l, h with
  | [], h => cases h
  | [_], .cons _ _ h => cases h
  | [s, r], .cons h1 h2 (.cons h3 h4 _) => exact ⟨s, r, rfl, h1, h2, h3, h4⟩
  | _ :: _ :: _ :: _, .cons _ _ (.cons _ _ h) => cases h
def one : Ver := ⟨1, 0, 0, [], []⟩
def oneSp : RSp := ⟨⟨1, one, none, 0, none, 0⟩, ⟨2, one, none, 0, none, 0⟩⟩
theorem one_sp : oneSp.sp = ⟨aheadOf one, behindOf one⟩ := rfl
theorem one_like : Like ([oneSp].map RSp.sp) [⟨aheadOf one, behindOf one⟩] := Like.self
theorem one_normal : Norm ([oneSp].map RSp.sp) := one_norm v100
theorem one_lies (w : World) : LiesS w oneSp := ⟨⟨SRow.none_ _ _, SRow.none_ _ _, Fit.nil, Fit.nil, fun _ => rfl⟩, ⟨SRow.none_ _ _, SRow.none_ _ _, Fit.nil, Fit.nil, fun _ => rfl⟩⟩
/-- What was said of both cuts within. -/
theorem inner_like {a b : Cut} {v : Ver} (h1 : stand a (aheadOf v) = 0) (h2 : stand b (behindOf v) = 0) : cmpV a.v b.v = 0 := by
  obtain ⟨k1, e1⟩ := stand_zero h1
  obtain ⟨k2, e2⟩ := stand_zero h2
  have g1 := e1 ((ofVer_iff a).2 (.inl k1)) rfl
  have g2 := e2 ((ofVer_iff b).2 (.inr k2)) rfl
  have g3 := cmpV_ordr.flip b.v (behindOf v).v
  have g4 := cmpV_ordr.trans a.v (aheadOf v).v b.v (by omega) (by show cmpV (behindOf v).v b.v ≤ 0; omega)
  have g5 := cmpV_ordr.flip a.v (aheadOf v).v
  have g6 := cmpV_ordr.trans b.v (aheadOf v).v a.v (by show cmpV b.v (behindOf v).v ≤ 0; omega) (by omega)
  have g7 := cmpV_ordr.flip a.v b.v
  omega
theorem one_has : ([oneSp].map RSp.sp).any (hasOne (aheadOf one) (behindOf one)) = true := (has_iff one_normal.rights v100).2 ⟨_, List.mem_singleton.2 rfl, Int.le_of_eq (stand_self _), ahead_behind one⟩
theorem one_not {q : List Sp} (h : NotOf ([oneSp].map RSp.sp) q) : q.any (hasOne (aheadOf one) (behindOf one)) = false := by
  rw [← Bool.not_eq_true, has_iff (v := one) h.1.rights v100, h.2, one_normal.inR]
  exact fun k => k.2 ⟨_, List.mem_singleton.2 rfl, Int.le_of_eq (stand_self _), ahead_behind one⟩
set_option maxRecDepth 100000 in
set_option maxHeartbeats 6400000 in
theorem awake_any (w : World) : Calls Tryz.prog 6 #[] w fun e w' => e = .returned (.bool true) ∧ Below w.heap.size w w' := by
  go_enter Tryz.func6, Tryz.ntmps6
  go_wp2_with fail
  refine (not_any none 0 0 [] _ (SpRow.none_ _ _) (by omega)).mono ?_
  rintro e w1 ⟨A1, n1, c1, out1, rfl, hr1, _, hp1, hb1⟩
  obtain ⟨s1, rfl, hs1, hs2⟩ := like_one (not_none hp1)
  obtain rfl : 1 = n1 := hr1.1
  have k1 : s1.lo.kind = 0 := (stand_zero hs1).1
  have k2 : s1.hi.kind = 3 := (stand_zero hs2).1
  have R1 := Lib.hid hr1
  have B1 := Lib.hid hb1
  clear hr1 hp1 hb1 hs1 hs2
  have BX : Hid (Below w1.heap.size w1 ((w1.alloc (.cells #[.int .u64 1, .int .u64 0, .int .u64 0, .slice none 0 0, .slice none 0 0] 32)).alloc (.cells #[.int .i64 1, .int .u64 1, .int .u64 0, .int .u64 0, .slice none 0 0, .slice none 0 0, .int .i64 2, .int .u64 1, .int .u64 0, .int .u64 0, .slice none 0 0, .slice none 0 0] 37))) := ((Below.refl _ _).alloc (Nat.le_refl _) _).alloc (by simp) _
  have P1 : Hid (SpRow ((w1.alloc (.cells #[.int .u64 1, .int .u64 0, .int .u64 0, .slice none 0 0, .slice none 0 0] 32)).alloc (.cells #[.int .i64 1, .int .u64 1, .int .u64 0, .int .u64 0, .slice none 0 0, .slice none 0 0, .int .i64 2, .int .u64 1, .int .u64 0, .int .u64 0, .slice none 0 0, .slice none 0 0] 37)) (some ⟨w1.heap.size + 1, 0, none⟩) 1 [oneSp]) := by
    have q := SpRow.one (w1.alloc (.cells #[.int .u64 1, .int .u64 0, .int .u64 0, .slice none 0 0, .slice none 0 0] 32)) oneSp (one_lies _)
    rw [size_alloc] at q; exact q
  have V1 : Hid (At5 ((w1.alloc (.cells #[.int .u64 1, .int .u64 0, .int .u64 0, .slice none 0 0, .slice none 0 0] 32)).alloc (.cells #[.int .i64 1, .int .u64 1, .int .u64 0, .int .u64 0, .slice none 0 0, .slice none 0 0, .int .i64 2, .int .u64 1, .int .u64 0, .int .u64 0, .slice none 0 0, .slice none 0 0] 37)) w1.heap.size (.int .u64 1) (.int .u64 0) (.int .u64 0) (.slice none 0 0) (.slice none 0 0)) := (At5.new w1 32 _ _ _ _ _).kept ((Below.refl _ _).alloc (Nat.le_refl _) _) (by simp)
  go_upto_region 4 with (fail)
  generalize ((w1.alloc (.cells #[.int .u64 1, .int .u64 0, .int .u64 0, .slice none 0 0, .slice none 0 0] 32)).alloc (.cells #[.int .i64 1, .int .u64 1, .int .u64 0, .int .u64 0, .slice none 0 0, .slice none 0 0, .int .i64 2, .int .u64 1, .int .u64 0, .int .u64 0, .slice none 0 0, .slice none 0 0] 37)) = W at BX P1 V1 ⊢
  go_wp2_with fail
  refine (not_any _ 1 1 [oneSp] _ P1.out (by omega)).mono ?_
  rintro e w2 ⟨A2, n2, c2, out2, rfl, hr2, _, hp2, hb2⟩
  have HN := Lib.hid (one_not hp2)
  have HG := Lib.hid ((goodS_norm _).2 hp2.1)
  obtain ⟨q0, q1, rfl, hq0, hq1, hq2, hq3⟩ := like_two (not_one v100 one_like one_normal hp2)
  obtain rfl : 2 = n2 := hr2.1
  have HI := Lib.hid (inner_like hq1 hq2)
  have HP : Hid (q0.hi.v.pre.length ≤ 1000) := by
    have := (right_few (((cnt_iff _).1 (hp2.1.cnt q0.sp (List.mem_cons_self ..))).2.1)).1
    exact Nat.le_trans this (by omega)
  have R2 := Lib.hid hr2
  have B2 := Lib.hid hb2
  have PP := Lib.hid (P1.out.kept hb2)
  have VV := Lib.hid (V1.out.kept hb2 V1.out.1)
  have RR := Lib.hid ((R1.out.kept BX.out).kept hb2)
  have BB := Lib.hid (B1.out.trans ((BX.out.trans (hb2.mono BX.out.size)).mono B1.out.size))
  clear hr2 hp2 hb2 hq0 hq1 hq2 hq3
  obtain ⟨b1, o1, rfl, hb1, hc1⟩ := RR.out.2.2 (by omega)
  have y0 := hc1 0 (by omega) 0 _ rfl
  have y6 := hc1 0 (by omega) 6 _ rfl
  clear hc1
  simp only [Nat.zero_mul, Nat.add_zero] at y0 y6
  replace y0 : w2.cell? ⟨b1, o1, none⟩ = some (.int .i64 0) := y0.trans (by rw [← k1]; rfl)
  replace y6 : w2.cell? ⟨b1, o1 + 6, none⟩ = some (.int .i64 3) := y6.trans (by rw [← k2]; rfl)
  go_wp2_with fail
  refine (points_two _ _ q0 q1 _ R2.out HG.out HI.out HP.out).mono ?_
  rintro e w3 ⟨P3, c3, rfl, hb3⟩
  have R3 := Lib.hid (R2.out.kept hb3)
  have PP3 := Lib.hid (PP.out.kept hb3)
  have VV3 := Lib.hid (VV.out.kept hb3 VV.out.1)
  have B3 := Lib.hid (BB.out.trans (hb3.mono BB.out.size))
  clear hb3 y0 y6
  obtain ⟨_, _, v0, v1, v2, v3, v4⟩ := VV3.out
  go_wp2_with fail
  refine (has_any _ 2 _ [q0, q1] one none 0 none 0 _ R3.out (by omega) (SRow.none_ _ _) Fit.nil (fun _ => rfl)).mono ?_
  rintro e w4 ⟨he, hb4⟩
  rw [HN.out] at he
  subst he
  have PP4 := Lib.hid (PP3.out.kept hb4)
  have VV4 := Lib.hid (VV3.out.kept hb4 VV3.out.1)
  have B4 := Lib.hid (B3.out.trans (hb4.mono B3.out.size))
  clear hb4 v0 v1 v2 v3 v4
  obtain ⟨_, _, v0, v1, v2, v3, v4⟩ := VV4.out
  go_wp2_with fail
  refine (has_any _ 1 _ [oneSp] one none 0 none 0 _ PP4.out (by omega) (SRow.none_ _ _) Fit.nil (fun _ => rfl)).mono ?_
  rintro e w5 ⟨he, hb5⟩
  rw [one_has] at he
  subst he
  have B5 := Lib.hid (B4.out.trans (hb5.mono B4.out.size))
  clear hb5 v0 v1 v2 v3 v4
  go_wp2
  go_ret
  exact ⟨rfl, B5.out⟩
end Go.Proofs.YtdbdeadcffpbfaaGreatDoor.Span
