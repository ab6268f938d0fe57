/-
  What the laws on sets come to, plainly: a right version is in a set just if what stands behind its first cut is; what is normal stays; what isn't in what isn't in it is the set; a set and the rest are all. Plain facts.
  The versions that alone lie between two spans (span.Points), of two spans between which one lies. Conditions: the slice reads as the two spans, which are normal; the inner cuts are of like versions.
  Whether spans are few (the law's own few): if it says yes, there are at most twelve. Condition: the slice reads as the list of spans.
  The law's own awake says yes. No condition.
  SpanLaws: what is normal stays; what isn't in what isn't in it is the set; a set and the rest are all, and have nothing in common. Condition: the slice reads as a list of spans.
-/
import Derived.Test.YtdbdeadcffpbfaaDoorSpSets
import Derived.Test.YtdbdeadcffpbfaaDoorSpHas
import Derived.Test.YtdbdeadcffpbfaaDoorSpSame
import Derived.Test.YtdbdeadcffpbfaaDoorSpGood
import Derived.Test.YtdbdeadcffpbfaaDoorSpCopied
import Derived.Test.YtdbdeadcffpbfaaDoorSpOwn
import Derived.RegionTactic
import Derived.Test.YtdbdeadcffpbfaaDoorSpMem
namespace Go.Proofs.YtdbdeadcffpbfaaDoor.Span
open Go.RowKit Num Ident Semver Prec

theorem stand_zero {a b : Cut} (h : stand a b = 0) : a.kind = b.kind ∧ (ofVer a = true → ofVer b = true → cmpV a.v b.v = 0) := by
  unfold stand at h
  by_cases h1 : ofVer a = true ∧ ofVer b = true ∧ cmpV a.v b.v ≠ 0
  · rw [if_pos h1] at h; exact absurd h h1.2.2
  · rw [if_neg h1] at h
    refine ⟨?_, fun h2 h3 => Classical.byContradiction fun h4 => h1 ⟨h2, h3, h4⟩⟩
    rcases ordI_cases a.kind b.kind with ⟨x, y⟩ | ⟨x, y⟩ | ⟨x, y⟩ <;> omega
/-- All cuts of a set are right. -/
def Rights (l : List Sp) : Prop := ∀ s ∈ l, right s.lo = true ∧ right s.hi = true
theorem Norm.rights {l : List Sp} (h : Norm l) : Rights l := fun s hs => ⟨((cnt_iff s).1 (h.cnt s hs)).1, ((cnt_iff s).1 (h.cnt s hs)).2.1⟩
theorem Rights.inR {l : List Sp} (h : Rights l) (c : Cut) : inR l c ↔ inS l c :=
  ⟨fun ⟨s, hs, _, hi⟩ => ⟨s, hs, hi⟩, fun ⟨s, hs, hi⟩ => ⟨s, hs, (cnt_iff s).2 ⟨(h s hs).1, (h s hs).2, le_lt hi.1 hi.2⟩, hi⟩⟩
theorem right_behind {v : Ver} (h : right (aheadOf v) = true) : right (behindOf v) = true := by
  rw [right_ver (.inl rfl)] at h
  rw [right_ver (.inr rfl)]; exact h
theorem hasOne_iff {s : Sp} {v : Ver} (h : right s.lo = true ∧ right s.hi = true) (hv : right (aheadOf v) = true) : hasOne (aheadOf v) (behindOf v) s = true ↔ inOne s (aheadOf v) := by
  unfold hasOne inOne
  rw [Bool.and_eq_true, decide_eq_true_eq, decide_eq_true_eq, cmpC_right h.1 hv, cmpC_right h.2 (right_behind hv), behind_le]
  have := stand_flip s.hi (behindOf v)
  constructor
  · rintro ⟨a, b⟩; exact ⟨a, by omega⟩
  · rintro ⟨a, b⟩; exact ⟨a, by omega⟩
/-- A right version is in a set just if what stands behind its first cut is. -/
theorem has_iff {l : List Sp} {v : Ver} (h : Rights l) (hv : right (aheadOf v) = true) : l.any (hasOne (aheadOf v) (behindOf v)) = true ↔ inS l (aheadOf v) := by
  rw [List.any_eq_true]
  exact ⟨fun ⟨s, hs, hi⟩ => ⟨s, hs, (hasOne_iff (h s hs) hv).1 hi⟩, fun ⟨s, hs, hi⟩ => ⟨s, hs, (hasOne_iff (h s hs) hv).2 hi⟩⟩
theorem Like.zero {l r : List RSp} {n : Nat} (h : Like (l.map RSp.sp) (r.map RSp.sp)) (hl : Rights (l.map RSp.sp)) (hr : Rights (r.map RSp.sp)) (hn : n ≤ l.length) : Zero l r n := by
  have hlen : l.length = r.length := by have := h.length; simpa using this
  intro i hi
  have h1 := h.at i (by rw [List.length_map]; omega)
  have e1 : (l.map RSp.sp).getD i default = (l.getD i default).sp := by simp [List.getD, List.getElem?_eq_getElem (show i < l.length by omega)]
  have e2 : (r.map RSp.sp).getD i default = (r.getD i default).sp := by simp [List.getD, List.getElem?_eq_getElem (show i < r.length by omega)]
  rw [e1, e2] at h1
  have k1 := hl (l.getD i default).sp (List.mem_map_of_mem (getS_mem (by omega)))
  have k2 := hr (r.getD i default).sp (List.mem_map_of_mem (getS_mem (by omega)))
  exact ⟨(cmpC_right k1.1 k2.1).trans h1.1, (cmpC_right k1.2 k2.2).trans h1.2⟩
theorem in_all {l : List Sp} (h : Rights l) {c : Cut} (hc : inS l c) : inOne ⟨low, high⟩ c := by
  obtain ⟨s, hs, h1, h2⟩ := hc
  exact ⟨le_le (low_le (h s hs).1) h1, lt_le h2 (le_high (h s hs).2)⟩
theorem inR_nil (c : Cut) : ¬ inR [] c := fun ⟨s, hs, _⟩ => by cases hs
theorem inS_nil (c : Cut) : ¬ inS [] c := fun ⟨s, hs, _⟩ => by cases hs
theorem inS_one (s : Sp) (c : Cut) : inS [s] c ↔ inOne s c := ⟨fun ⟨x, hx, h⟩ => by rw [List.mem_singleton] at hx; subst hx; exact h, fun h => ⟨s, List.mem_singleton.2 rfl, h⟩⟩
/-- What is normal stays. -/
theorem normal_again {l n n2 : List Sp} (h : NormalOf l n) (h2 : NormalOf n n2) : Like n2 n := unique h2.1 h.1 fun c => (h2.2 c).trans (h.1.inR c)
/-- What isn't in what isn't in it is the set. -/
theorem not_not {n m k : List Sp} (h : Norm n) (h1 : NotOf n m) (h2 : NotOf m k) : Like k n := unique h2.1 h fun c => by
  rw [h2.2 c, h1.1.inR, h1.2 c, h.inR]
  constructor
  · rintro ⟨a, b⟩; exact Classical.byContradiction fun g => b ⟨a, g⟩
  · intro a; exact ⟨in_all h.rights a, fun b => b.2 a⟩
theorem meet_none {n m k : List Sp} (h1 : NotOf n m) (h2 : MeetOf n m k) : k.length = 0 := by
  have := (unique h2.1 Norm.nil fun c => ⟨fun a => by
    obtain ⟨a1, a2⟩ := (h2.2 c).1 a
    rw [h1.1.inR, h1.2 c] at a2
    exact absurd a1 a2.2, fun a => absurd a (inS_nil c)⟩).length
  simpa using this
theorem union_all {n m k a : List Sp} (h : Norm n) (h1 : NotOf n m) (h2 : UnionOf n m k) (h3 : NotOf [] a) : Like k a := unique h2.1 h3.1 fun c => by
  rw [h2.2 c, h3.2 c, h1.1.inR, h1.2 c, h.inR]
  constructor
  · rintro (g | ⟨g, _⟩)
    · exact ⟨in_all h.rights g, inR_nil c⟩
    · exact ⟨g, inR_nil c⟩
  · rintro ⟨g, _⟩
    by_cases k : inS n c
    · exact .inl k
    · exact .inr ⟨g, k⟩
theorem normal_stays {l n : List Sp} (h : NormalOf l n) (hl : Norm l) : Like l n := unique hl h.1 fun c => ((h.2 c).trans (hl.inR c)).symm
/-- All that isn't in nothing. -/
theorem not_none {a : List Sp} (h : NotOf [] a) : Like a [⟨low, high⟩] := unique h.1 all_norm fun c => by
  rw [h.2 c, inS_one]; exact ⟨fun g => g.1, fun g => ⟨g, inR_nil c⟩⟩
theorem low_ahead (v : Ver) : stand low (aheadOf v) < 0 := by
  rw [stand_kind (by rintro ⟨h, _⟩; exact absurd h (by decide))]; exact (show ordI 0 1 < 0 by decide)
theorem behind_high (v : Ver) : stand (behindOf v) high < 0 := by
  rw [stand_kind (by rintro ⟨_, h⟩; exact absurd h (by decide))]; exact (show ordI 2 3 < 0 by decide)
/-- What isn't between the two cuts of a version. -/
theorem beside_norm {v : Ver} (hv : right (aheadOf v) = true) : Norm [⟨low, aheadOf v⟩, ⟨behindOf v, high⟩] := by
  refine ⟨fun s hs => ?_, List.pairwise_cons.2 ⟨fun t ht => ?_, List.pairwise_singleton _ _⟩⟩
  · simp only [List.mem_cons, List.mem_nil_iff, or_false] at hs
    rcases hs with rfl | rfl
    · exact (cnt_iff _).2 ⟨low_right, hv, low_ahead v⟩
    · exact (cnt_iff _).2 ⟨right_behind hv, high_right, behind_high v⟩
  · rw [List.mem_singleton] at ht; subst ht; exact ahead_behind v
theorem one_norm {v : Ver} (hv : right (aheadOf v) = true) : Norm [⟨aheadOf v, behindOf v⟩] :=
  ⟨fun s hs => by rw [List.mem_singleton] at hs; subst hs; exact (cnt_iff _).2 ⟨hv, right_behind hv, ahead_behind v⟩, List.pairwise_singleton _ _⟩
theorem not_one {v : Ver} (hv : right (aheadOf v) = true) {p q : List Sp} (hp : Like p [⟨aheadOf v, behindOf v⟩]) (hpn : Norm p) (h : NotOf p q) : Like q [⟨low, aheadOf v⟩, ⟨behindOf v, high⟩] := by
  refine unique h.1 (beside_norm hv) fun c => ?_
  rw [h.2 c, hpn.inR]
  have hin : inS p c ↔ inOne ⟨aheadOf v, behindOf v⟩ c := by
    cases hp with
    | cons e1 e2 h3 =>
      cases h3
      rw [inS_one]
      constructor
      · rintro ⟨a, b⟩; exact ⟨le_le (show stand (aheadOf v) _ ≤ 0 by have := like_flip e1; simp only at this; omega) a, lt_le b (show stand _ (behindOf v) ≤ 0 by simp only at e2; omega)⟩
      · rintro ⟨a, b⟩; exact ⟨le_le (show stand _ (aheadOf v) ≤ 0 by simp only at e1; omega) a, lt_le b (show stand (behindOf v) _ ≤ 0 by have := like_flip e2; simp only at this; omega)⟩
  rw [hin]
  constructor
  · rintro ⟨a, b⟩
    by_cases g : stand (aheadOf v) c ≤ 0
    · exact ⟨_, List.mem_cons_of_mem _ (List.mem_singleton.2 rfl), not_lt fun k => b ⟨g, k⟩, a.2⟩
    · exact ⟨_, List.mem_cons_self .., a.1, not_le g⟩
  · rintro ⟨s, hs, a, b⟩
    simp only [List.mem_cons, List.mem_nil_iff, or_false] at hs
    rcases hs with rfl | rfl
    · exact ⟨⟨a, lt_lt b (lt_lt (ahead_behind v) (behind_high v))⟩, fun k => le_not k.1 b⟩
    · exact ⟨⟨le_le (show stand low (behindOf v) ≤ 0 by have := lt_lt (low_ahead v) (ahead_behind v); omega) a, b⟩, fun k => le_not a k.2⟩
theorem Like.self {l : List Sp} : Like l l := by
  induction l with
  | nil => exact Like.nil
  | cons s l ih => exact Like.cons (stand_self _) (stand_self _) ih
theorem v100 : right (aheadOf ⟨1, 0, 0, [], []⟩) = true := by decide
end Go.Proofs.YtdbdeadcffpbfaaDoor.Span

namespace Go.Proofs.YtdbdeadcffpbfaaDoor.Span
open Go.RowKit Num Ident Semver Prec

theorem veInfo : (Tryd.prog.info? 31).map (fun i => (i.zero, i.size, i.bytes)) = some (some (.agg #[.int .u64 0, .int .u64 0, .int .u64 0, .slice none 0 0, .slice none 0 0]), 5, 72) := by kernel_rfl
theorem wpList_append_ve (w : World) {ops : Array Oper} {rest : List Oper} {o : Oper} {a : Act} {Q : Exit → Act → World → Prop} (hgd : o.guard = none) (s x : Operand)
    (ho : o.op = .call { callee := .builtin .append, args := #[s, x], argTypes := #[36, 36] })
    (base : Nat) (hs : a.eval s = .slice none 0 0) (ad : Addr) (vals : List Value) (hlen : vals.length = 5) (hone : ∀ u ∈ vals, u.oneCell' = true) (hx : a.eval x = .slice (some ad) 1 1) (hnews : ∀ j u, vals[j]? = some u → w.cell? (ad.add j) = some u) (hbase : base ≤ w.heap.size)
    (h : ∀ P c w', Below base w w' → wpList Tryd.prog ops Q rest (a.put o.dst (.slice P 1 c)) w') : wpList Tryd.prog ops Q (o :: rest) a w := by
  obtain ⟨i, hi, hz, hsz, hby⟩ := info_parts veInfo
  have hown : w.ownsRow base 31 5 (.slice none 0 0) 0 [] := World.ownsRow_nil _ _ _ _
  refine wpList_append_own w hgd s x 36 ho base 31 i _ 5 72 Tryd.underlying36 hi hz hsz hby rfl (by omega) _ 0 _ hs hown ad 1 1 _ hx (by rw [hlen]) hnews hone (by unfold maxLen; omega) (by omega) hbase (fun v' w' h2 h3 _ => ?_)
  have hb : Below base w w' := (Below.refl base w).grown h3 hbase fun k hk => (hown.lt k hk).1
  rcases h2.2 with ⟨_, h4⟩ | ⟨g, cap, cur, rfl, _⟩
  · omega
  · exact h _ _ w' hb
theorem put_val {K : Act → World → Prop} {a : Act} {d : Option Nat} {v v' : Value} {w : World} (h : v = v') (hk : K (a.put d v') w) : K (a.put d v) w := h ▸ hk
def PtJ (w : World) (v i : Value) (W : World) : Prop := Below w.heap.size w W ∧ ((i = .int .i64 1 ∧ v = .slice none 0 0) ∨ (i = .int .i64 2 ∧ ∃ P c, v = .slice P 1 c))
set_option maxRecDepth 100000 in
set_option maxHeartbeats 6400000 in
theorem points_two (A : Option Addr) (c : Nat) (s t : RSp) (w : World) (hr : SpRow w A 2 [s, t]) (hg : goodS [s.sp, t.sp] = true) (hq : cmpV s.hi.v t.lo.v = 0) (hp : s.hi.v.pre.length ≤ 1000) :
    Calls Tryd.prog 12 #[.slice A 2 c] w fun e w' => ∃ P cp, e = .returned (.slice P 1 cp) ∧ Below w.heap.size w w' := by
  have HR := Lib.hid hr
  have HG := Lib.hid hg
  have HQ := Lib.hid hq
  obtain ⟨b, o, rfl, hb, hc⟩ := hr.2.2 (by omega)
  have HC : Hid (SpAt w b (o + 0 * 12) s) := hc 0 (by omega)
  have HD : Hid (SpAt w b (o + 1 * 12) t) := hc 1 (by omega)
  have HLS : Hid (LiesS w s) := hr.2.1 s (by simp)
  have HLT : Hid (LiesS w t) := hr.2.1 t (by simp)
  clear hr hg hq hc
  go_enter Tryd.func12, Tryd.ntmps12
  go_wp2_with fail
  refine (goodS_any _ 2 c [s, t] _ HR.out (by omega)).mono ?_
  rintro e w1 ⟨he, hb1⟩
  rw [show goodS ([s, t].map RSp.sp) = true from HG.out] at he
  subst he
  have HB1 := Lib.hid hb1
  clear hb1
  go_wp2
  go_loopw [3, 4] (fun v i W => PtJ w v i W) (fun _ i _ => 2 - (intOf i).toNat)
  case atStart => exact ⟨HB1.out, .inl ⟨rfl, rfl⟩⟩
  case round =>
    obtain ⟨hbel, ⟨rfl, rfl⟩ | ⟨rfl, P, cp, rfl⟩⟩ := hrel
    · have HB := Lib.hid hbel
      have hsz := hbel.size
      have hbr : b < wr.heap.size := Nat.lt_of_lt_of_le hb hsz
      clear hbel
      have C1 : Hid (SpAt wr b (o + 0 * 12) s) := HC.out.kept HB.out hb
      have D1 : Hid (SpAt wr b (o + 1 * 12) t) := HD.out.kept HB.out hb
      obtain ⟨p0, p1, p2, p3, p4, p5, p6, p7, p8, p9, p10, p11⟩ := C1.out.cells
      obtain ⟨q0, q1, q2, q3, q4, q5, q6, q7, q8, q9, q10, q11⟩ := D1.out.cells
      simp only [Nat.zero_mul, Nat.one_mul, Nat.add_zero] at p0 p1 p2 p3 p4 p5 p6 p7 p8 p9 p10 p11 q0 q1 q2 q3 q4 q5 q6 q7 q8 q9 q10 q11
      go_upto_region 7 with (fail)
      go_region
      · have HBX : Hid (Below w.heap.size w ((wr.alloc (.cells #[.int .i64 s.hi.kind, .int .u64 (s.hi.v.a : Int), .int .u64 (s.hi.v.b : Int), .int .u64 (s.hi.v.c : Int), .slice s.hi.A s.hi.v.pre.length s.hi.c, .slice s.hi.B s.hi.v.build.length s.hi.d] 33)).alloc (.cells #[.int .i64 t.lo.kind, .int .u64 (t.lo.v.a : Int), .int .u64 (t.lo.v.b : Int), .int .u64 (t.lo.v.c : Int), .slice t.lo.A t.lo.v.pre.length t.lo.c, .slice t.lo.B t.lo.v.build.length t.lo.d] 33)).drew) := ((HB.out.alloc hsz _).alloc (Nat.le_trans hsz (by simp)) _).drew
        have A1 : Hid (Below wr.heap.size wr ((wr.alloc (.cells #[.int .i64 s.hi.kind, .int .u64 (s.hi.v.a : Int), .int .u64 (s.hi.v.b : Int), .int .u64 (s.hi.v.c : Int), .slice s.hi.A s.hi.v.pre.length s.hi.c, .slice s.hi.B s.hi.v.build.length s.hi.d] 33)).alloc (.cells #[.int .i64 t.lo.kind, .int .u64 (t.lo.v.a : Int), .int .u64 (t.lo.v.b : Int), .int .u64 (t.lo.v.c : Int), .slice t.lo.A t.lo.v.pre.length t.lo.c, .slice t.lo.B t.lo.v.build.length t.lo.d] 33)).drew) := (((Below.refl _ _).alloc (Nat.le_refl _) _).alloc (by simp) _).drew
        have K1 : Hid (At6B ((wr.alloc (.cells #[.int .i64 s.hi.kind, .int .u64 (s.hi.v.a : Int), .int .u64 (s.hi.v.b : Int), .int .u64 (s.hi.v.c : Int), .slice s.hi.A s.hi.v.pre.length s.hi.c, .slice s.hi.B s.hi.v.build.length s.hi.d] 33)).alloc (.cells #[.int .i64 t.lo.kind, .int .u64 (t.lo.v.a : Int), .int .u64 (t.lo.v.b : Int), .int .u64 (t.lo.v.c : Int), .slice t.lo.A t.lo.v.pre.length t.lo.c, .slice t.lo.B t.lo.v.build.length t.lo.d] 33)).drew wr.heap.size (.int .i64 s.hi.kind) (.int .u64 (s.hi.v.a : Int)) (.int .u64 (s.hi.v.b : Int)) (.int .u64 (s.hi.v.c : Int)) (.slice s.hi.A s.hi.v.pre.length s.hi.c) (.slice s.hi.B s.hi.v.build.length s.hi.d)) := by
          have q := (At6B.new wr 33 (.int .i64 s.hi.kind) (.int .u64 (s.hi.v.a : Int)) (.int .u64 (s.hi.v.b : Int)) (.int .u64 (s.hi.v.c : Int)) (.slice s.hi.A s.hi.v.pre.length s.hi.c) (.slice s.hi.B s.hi.v.build.length s.hi.d)).kept ((Below.refl _ _).alloc (Nat.le_refl _) (.cells #[.int .i64 t.lo.kind, .int .u64 (t.lo.v.a : Int), .int .u64 (t.lo.v.b : Int), .int .u64 (t.lo.v.c : Int), .slice t.lo.A t.lo.v.pre.length t.lo.c, .slice t.lo.B t.lo.v.build.length t.lo.d] 33)) (by simp)
          exact q
        have J1 : Hid (At6B ((wr.alloc (.cells #[.int .i64 s.hi.kind, .int .u64 (s.hi.v.a : Int), .int .u64 (s.hi.v.b : Int), .int .u64 (s.hi.v.c : Int), .slice s.hi.A s.hi.v.pre.length s.hi.c, .slice s.hi.B s.hi.v.build.length s.hi.d] 33)).alloc (.cells #[.int .i64 t.lo.kind, .int .u64 (t.lo.v.a : Int), .int .u64 (t.lo.v.b : Int), .int .u64 (t.lo.v.c : Int), .slice t.lo.A t.lo.v.pre.length t.lo.c, .slice t.lo.B t.lo.v.build.length t.lo.d] 33)).drew (wr.heap.size + 1) (.int .i64 t.lo.kind) (.int .u64 (t.lo.v.a : Int)) (.int .u64 (t.lo.v.b : Int)) (.int .u64 (t.lo.v.c : Int)) (.slice t.lo.A t.lo.v.pre.length t.lo.c) (.slice t.lo.B t.lo.v.build.length t.lo.d)) := by
          have q := At6B.new (wr.alloc (.cells #[.int .i64 s.hi.kind, .int .u64 (s.hi.v.a : Int), .int .u64 (s.hi.v.b : Int), .int .u64 (s.hi.v.c : Int), .slice s.hi.A s.hi.v.pre.length s.hi.c, .slice s.hi.B s.hi.v.build.length s.hi.d] 33)) 33 (.int .i64 t.lo.kind) (.int .u64 (t.lo.v.a : Int)) (.int .u64 (t.lo.v.b : Int)) (.int .u64 (t.lo.v.c : Int)) (.slice t.lo.A t.lo.v.pre.length t.lo.c) (.slice t.lo.B t.lo.v.build.length t.lo.d)
          rw [size_alloc] at q; exact q
        generalize ((wr.alloc (.cells #[.int .i64 s.hi.kind, .int .u64 (s.hi.v.a : Int), .int .u64 (s.hi.v.b : Int), .int .u64 (s.hi.v.c : Int), .slice s.hi.A s.hi.v.pre.length s.hi.c, .slice s.hi.B s.hi.v.build.length s.hi.d] 33)).alloc (.cells #[.int .i64 t.lo.kind, .int .u64 (t.lo.v.a : Int), .int .u64 (t.lo.v.b : Int), .int .u64 (t.lo.v.c : Int), .slice t.lo.A t.lo.v.pre.length t.lo.c, .slice t.lo.B t.lo.v.build.length t.lo.d] 33)).drew = W at HBX A1 K1 J1 ⊢
        have LS := Lib.hid (HLS.out.kept HBX.out)
        have LT := Lib.hid (HLT.out.kept HBX.out)
        clear p0 p1 p2 p3 p4 p5 p6 p7 p8 p9 p10 p11 q0 q1 q2 q3 q4 q5 q6 q7 q8 q9 q10 q11
        obtain ⟨hz1, _, x0, x1, x2, x3, x4, x5⟩ := K1.out
        obtain ⟨_, _, y0, y1, y2, y3, y4, y5⟩ := J1.out
        go_wp2_with fail
        refine (Prec.compare_any s.hi.v t.lo.v _ _ _ _ _ _ _ _ _ LS.out.hi.pre LT.out.lo.pre LS.out.hi.fpre LT.out.lo.fpre).mono ?_
        rintro e w2 ⟨he, hb2⟩
        rw [HQ.out] at he
        subst he
        have K2 := Lib.hid (K1.out.kept hb2 hz1)
        have B2 := Lib.hid (HBX.out.trans (hb2.mono HBX.out.size))
        have LS2 := Lib.hid (LS.out.kept hb2)
        clear hb2 hz1 x0 x1 x2 x3 x4 x5 y0 y1 y2 y3 y4 y5
        obtain ⟨hz2, _, x0, x1, x2, x3, x4, x5⟩ := K2.out
        go_wp2_with fail
        refine (copied_any s.hi _ LS2.out.hi hp).mono ?_
        rintro e w3 ⟨r, rfl, hr3, ho3, hb3⟩
        have B3 := Lib.hid (B2.out.trans (hb3.mono B2.out.size))
        have B4 := Lib.hid (B3.out.alloc B3.out.size (.cells #[.int .u64 (r.v.a : Int), .int .u64 (r.v.b : Int), .int .u64 (r.v.c : Int), .slice r.A r.v.pre.length r.c, .slice r.B r.v.build.length r.d] 31))
        have hz3 := B4.out.size
        have HNW := Lib.hid (news_new w3 [.int .u64 (r.v.a : Int), .int .u64 (r.v.b : Int), .int .u64 (r.v.c : Int), .slice r.A r.v.pre.length r.c, .slice r.B r.v.build.length r.d] 31)
        clear hb3 ho3 hr3 hz2 x0 x1 x2 x3 x4 x5
        go_wp2_with fail
        refine put_val (v' := .agg #[.int .u64 (r.v.a : Int), .int .u64 (r.v.b : Int), .int .u64 (r.v.c : Int), .slice r.A r.v.pre.length r.c, .slice r.B r.v.build.length r.d]) (by kernel_rfl) ?_
        go_wp2_with (first
          | (at_builtin; refine wpList_append_ve _ rfl _ _ rfl w.heap.size rfl ⟨w3.heap.size, 0, none⟩ [.int .u64 (r.v.a : Int), .int .u64 (r.v.b : Int), .int .u64 (r.v.c : Int), .slice r.A r.v.pre.length r.c, .slice r.B r.v.build.length r.d] rfl (fun u hu => by simp only [List.mem_cons, List.mem_nil_iff, or_false] at hu; rcases hu with rfl | rfl | rfl | rfl | rfl <;> rfl) rfl HNW.out hz3 ?_; intro P4 c4 w4 hb4; have HB4 := Lib.hid (B4.out.trans hb4); clear hb4)
          | fail)
        exact ⟨⟨HB4.out, .inr ⟨by go_num, P4, c4, rfl⟩⟩, by simp [intOf]⟩
      · have HBX : Hid (Below w.heap.size w ((wr.alloc (.cells #[.int .i64 t.lo.kind, .int .u64 (t.lo.v.a : Int), .int .u64 (t.lo.v.b : Int), .int .u64 (t.lo.v.c : Int), .slice t.lo.A t.lo.v.pre.length t.lo.c, .slice t.lo.B t.lo.v.build.length t.lo.d] 33)).alloc (.cells #[.int .i64 s.hi.kind, .int .u64 (s.hi.v.a : Int), .int .u64 (s.hi.v.b : Int), .int .u64 (s.hi.v.c : Int), .slice s.hi.A s.hi.v.pre.length s.hi.c, .slice s.hi.B s.hi.v.build.length s.hi.d] 33)).drew) := ((HB.out.alloc hsz _).alloc (Nat.le_trans hsz (by simp)) _).drew
        have A1 : Hid (Below wr.heap.size wr ((wr.alloc (.cells #[.int .i64 t.lo.kind, .int .u64 (t.lo.v.a : Int), .int .u64 (t.lo.v.b : Int), .int .u64 (t.lo.v.c : Int), .slice t.lo.A t.lo.v.pre.length t.lo.c, .slice t.lo.B t.lo.v.build.length t.lo.d] 33)).alloc (.cells #[.int .i64 s.hi.kind, .int .u64 (s.hi.v.a : Int), .int .u64 (s.hi.v.b : Int), .int .u64 (s.hi.v.c : Int), .slice s.hi.A s.hi.v.pre.length s.hi.c, .slice s.hi.B s.hi.v.build.length s.hi.d] 33)).drew) := (((Below.refl _ _).alloc (Nat.le_refl _) _).alloc (by simp) _).drew
        have K1 : Hid (At6B ((wr.alloc (.cells #[.int .i64 t.lo.kind, .int .u64 (t.lo.v.a : Int), .int .u64 (t.lo.v.b : Int), .int .u64 (t.lo.v.c : Int), .slice t.lo.A t.lo.v.pre.length t.lo.c, .slice t.lo.B t.lo.v.build.length t.lo.d] 33)).alloc (.cells #[.int .i64 s.hi.kind, .int .u64 (s.hi.v.a : Int), .int .u64 (s.hi.v.b : Int), .int .u64 (s.hi.v.c : Int), .slice s.hi.A s.hi.v.pre.length s.hi.c, .slice s.hi.B s.hi.v.build.length s.hi.d] 33)).drew wr.heap.size (.int .i64 t.lo.kind) (.int .u64 (t.lo.v.a : Int)) (.int .u64 (t.lo.v.b : Int)) (.int .u64 (t.lo.v.c : Int)) (.slice t.lo.A t.lo.v.pre.length t.lo.c) (.slice t.lo.B t.lo.v.build.length t.lo.d)) := by
          have q := (At6B.new wr 33 (.int .i64 t.lo.kind) (.int .u64 (t.lo.v.a : Int)) (.int .u64 (t.lo.v.b : Int)) (.int .u64 (t.lo.v.c : Int)) (.slice t.lo.A t.lo.v.pre.length t.lo.c) (.slice t.lo.B t.lo.v.build.length t.lo.d)).kept ((Below.refl _ _).alloc (Nat.le_refl _) (.cells #[.int .i64 s.hi.kind, .int .u64 (s.hi.v.a : Int), .int .u64 (s.hi.v.b : Int), .int .u64 (s.hi.v.c : Int), .slice s.hi.A s.hi.v.pre.length s.hi.c, .slice s.hi.B s.hi.v.build.length s.hi.d] 33)) (by simp)
          exact q
        have J1 : Hid (At6B ((wr.alloc (.cells #[.int .i64 t.lo.kind, .int .u64 (t.lo.v.a : Int), .int .u64 (t.lo.v.b : Int), .int .u64 (t.lo.v.c : Int), .slice t.lo.A t.lo.v.pre.length t.lo.c, .slice t.lo.B t.lo.v.build.length t.lo.d] 33)).alloc (.cells #[.int .i64 s.hi.kind, .int .u64 (s.hi.v.a : Int), .int .u64 (s.hi.v.b : Int), .int .u64 (s.hi.v.c : Int), .slice s.hi.A s.hi.v.pre.length s.hi.c, .slice s.hi.B s.hi.v.build.length s.hi.d] 33)).drew (wr.heap.size + 1) (.int .i64 s.hi.kind) (.int .u64 (s.hi.v.a : Int)) (.int .u64 (s.hi.v.b : Int)) (.int .u64 (s.hi.v.c : Int)) (.slice s.hi.A s.hi.v.pre.length s.hi.c) (.slice s.hi.B s.hi.v.build.length s.hi.d)) := by
          have q := At6B.new (wr.alloc (.cells #[.int .i64 t.lo.kind, .int .u64 (t.lo.v.a : Int), .int .u64 (t.lo.v.b : Int), .int .u64 (t.lo.v.c : Int), .slice t.lo.A t.lo.v.pre.length t.lo.c, .slice t.lo.B t.lo.v.build.length t.lo.d] 33)) 33 (.int .i64 s.hi.kind) (.int .u64 (s.hi.v.a : Int)) (.int .u64 (s.hi.v.b : Int)) (.int .u64 (s.hi.v.c : Int)) (.slice s.hi.A s.hi.v.pre.length s.hi.c) (.slice s.hi.B s.hi.v.build.length s.hi.d)
          rw [size_alloc] at q; exact q
        generalize ((wr.alloc (.cells #[.int .i64 t.lo.kind, .int .u64 (t.lo.v.a : Int), .int .u64 (t.lo.v.b : Int), .int .u64 (t.lo.v.c : Int), .slice t.lo.A t.lo.v.pre.length t.lo.c, .slice t.lo.B t.lo.v.build.length t.lo.d] 33)).alloc (.cells #[.int .i64 s.hi.kind, .int .u64 (s.hi.v.a : Int), .int .u64 (s.hi.v.b : Int), .int .u64 (s.hi.v.c : Int), .slice s.hi.A s.hi.v.pre.length s.hi.c, .slice s.hi.B s.hi.v.build.length s.hi.d] 33)).drew = W at HBX A1 K1 J1 ⊢
        have LS := Lib.hid (HLS.out.kept HBX.out)
        have LT := Lib.hid (HLT.out.kept HBX.out)
        clear p0 p1 p2 p3 p4 p5 p6 p7 p8 p9 p10 p11 q0 q1 q2 q3 q4 q5 q6 q7 q8 q9 q10 q11
        obtain ⟨hz1, _, x0, x1, x2, x3, x4, x5⟩ := J1.out
        obtain ⟨_, _, y0, y1, y2, y3, y4, y5⟩ := K1.out
        go_wp2_with fail
        refine (Prec.compare_any s.hi.v t.lo.v _ _ _ _ _ _ _ _ _ LS.out.hi.pre LT.out.lo.pre LS.out.hi.fpre LT.out.lo.fpre).mono ?_
        rintro e w2 ⟨he, hb2⟩
        rw [HQ.out] at he
        subst he
        have K2 := Lib.hid (J1.out.kept hb2 hz1)
        have B2 := Lib.hid (HBX.out.trans (hb2.mono HBX.out.size))
        have LS2 := Lib.hid (LS.out.kept hb2)
        clear hb2 hz1 x0 x1 x2 x3 x4 x5 y0 y1 y2 y3 y4 y5
        obtain ⟨hz2, _, x0, x1, x2, x3, x4, x5⟩ := K2.out
        go_wp2_with fail
        refine (copied_any s.hi _ LS2.out.hi hp).mono ?_
        rintro e w3 ⟨r, rfl, hr3, ho3, hb3⟩
        have B3 := Lib.hid (B2.out.trans (hb3.mono B2.out.size))
        have B4 := Lib.hid (B3.out.alloc B3.out.size (.cells #[.int .u64 (r.v.a : Int), .int .u64 (r.v.b : Int), .int .u64 (r.v.c : Int), .slice r.A r.v.pre.length r.c, .slice r.B r.v.build.length r.d] 31))
        have hz3 := B4.out.size
        have HNW := Lib.hid (news_new w3 [.int .u64 (r.v.a : Int), .int .u64 (r.v.b : Int), .int .u64 (r.v.c : Int), .slice r.A r.v.pre.length r.c, .slice r.B r.v.build.length r.d] 31)
        clear hb3 ho3 hr3 hz2 x0 x1 x2 x3 x4 x5
        go_wp2_with fail
        refine put_val (v' := .agg #[.int .u64 (r.v.a : Int), .int .u64 (r.v.b : Int), .int .u64 (r.v.c : Int), .slice r.A r.v.pre.length r.c, .slice r.B r.v.build.length r.d]) (by kernel_rfl) ?_
        go_wp2_with (first
          | (at_builtin; refine wpList_append_ve _ rfl _ _ rfl w.heap.size rfl ⟨w3.heap.size, 0, none⟩ [.int .u64 (r.v.a : Int), .int .u64 (r.v.b : Int), .int .u64 (r.v.c : Int), .slice r.A r.v.pre.length r.c, .slice r.B r.v.build.length r.d] rfl (fun u hu => by simp only [List.mem_cons, List.mem_nil_iff, or_false] at hu; rcases hu with rfl | rfl | rfl | rfl | rfl <;> rfl) rfl HNW.out hz3 ?_; intro P4 c4 w4 hb4; have HB4 := Lib.hid (B4.out.trans hb4); clear hb4)
          | fail)
        exact ⟨⟨HB4.out, .inr ⟨by go_num, P4, c4, rfl⟩⟩, by simp [intOf]⟩
    · go_wp2
      go_ret
      exact ⟨P, cp, rfl, hbel⟩
end Go.Proofs.YtdbdeadcffpbfaaDoor.Span

namespace Go.Proofs.YtdbdeadcffpbfaaDoor.Span
open Go.RowKit Num Ident Semver Prec

def FewPost (n : Nat) (w : World) (e : Ending) (w' : World) : Prop := ∃ b : Bool, e = .returned (.bool b) ∧ (b = true → n ≤ 12) ∧ w = w'
set_option maxRecDepth 100000 in
set_option maxHeartbeats 3200000 in
theorem few_any (A : Option Addr) (n c : Nat) (l : List RSp) (w : World) (hr : SpRow w A n l) (hn : n ≤ maxLen) :
    Calls Tryd.prog 5 #[.slice A n c] w (FewPost n w) := by
  unfold maxLen at hn
  have HR := Lib.hid hr
  clear hr
  by_cases h0 : 12 < n
  · go_enter Tryd.func5, Tryd.ntmps5
    go_wp2
    go_ret
    exact ⟨false, rfl, (fun h => by cases h), rfl⟩
  · go_enter Tryd.func5, Tryd.ntmps5
    go_wp2
    go_loop [3] (fun i => ∃ k : Nat, k ≤ n ∧ i = .int .i64 k) (fun i => n - (intOf i).toNat)
    case atStart => exact ⟨0, Nat.zero_le _, rfl⟩
    case round =>
      obtain ⟨k, hk, rfl⟩ := hrel
      by_cases hlt : k < n
      · obtain ⟨b, o, rfl, hb, hc⟩ := HR.out.2.2 (by omega)
        obtain ⟨x0, x1, x2, x3, x4, x5, x6, x7, x8, x9, x10, x11⟩ := SpRow.cells hc hlt
        have HL := Lib.hid (HR.out.lies hlt)
        have m1 : (l.getD k default).lo.v.pre.length ≤ 9223372036854775807 := HL.out.lo.fpre.1
        have m2 : (l.getD k default).hi.v.pre.length ≤ 9223372036854775807 := HL.out.hi.fpre.1
        have m3 : (l.getD k default).lo.v.build.length ≤ 9223372036854775807 := HL.out.lo.fbuild.1
        have m4 : (l.getD k default).hi.v.build.length ≤ 9223372036854775807 := HL.out.hi.fbuild.1
        clear hc HL
        generalize l.getD k default = s at x0 x1 x2 x3 x4 x5 x6 x7 x8 x9 x10 x11 m1 m2 m3 m4
        by_cases h1 : 20 < s.lo.v.pre.length
        · go_wp2
          go_ret
          exact ⟨false, rfl, (fun h => by cases h), rfl⟩
        by_cases h2 : 20 < s.hi.v.pre.length
        · go_wp2
          go_ret
          exact ⟨false, rfl, (fun h => by cases h), rfl⟩
        by_cases h3 : 20 < s.lo.v.build.length
        · go_wp2
          go_ret
          exact ⟨false, rfl, (fun h => by cases h), rfl⟩
        by_cases h4 : 20 < s.hi.v.build.length
        · go_wp2
          go_ret
          exact ⟨false, rfl, (fun h => by cases h), rfl⟩
        go_wp2
        go_round
        case rel => exact ⟨k + 1, by omega, by go_num⟩
        case measure => simp [intOf]; omega
      · go_wp2
        go_ret
        exact ⟨true, rfl, (fun _ => by omega), rfl⟩
end Go.Proofs.YtdbdeadcffpbfaaDoor.Span

namespace Go.Proofs.YtdbdeadcffpbfaaDoor.Span
open Go.RowKit Num Ident Semver Prec

theorem like_one {l : List RSp} {t : Sp} (h : Like (l.map RSp.sp) [t]) : ∃ s, l = [s] ∧ stand s.lo.cut t.lo = 0 ∧ stand s.hi.cut t.hi = 0 := by
  match l, h with
  | [], h => cases h
  | [s], .cons h1 h2 _ => exact ⟨s, rfl, h1, h2⟩
  | _ :: _ :: _, .cons _ _ h => cases h
theorem like_two {l : List RSp} {t u : Sp} (h : Like (l.map RSp.sp) [t, u]) : ∃ s r, l = [s, r] ∧ stand s.lo.cut t.lo = 0 ∧ stand s.hi.cut t.hi = 0 ∧ stand r.lo.cut u.lo = 0 ∧ stand r.hi.cut u.hi = 0 := by
  match l, h with
  | [], h => cases h
  | [_], .cons _ _ h => cases h
  | [s, r], .cons h1 h2 (.cons h3 h4 _) => exact ⟨s, r, rfl, h1, h2, h3, h4⟩
  | _ :: _ :: _ :: _, .cons _ _ (.cons _ _ h) => cases h
def one : Ver := ⟨1, 0, 0, [], []⟩
def oneSp : RSp := ⟨⟨1, one, none, 0, none, 0⟩, ⟨2, one, none, 0, none, 0⟩⟩
theorem one_sp : oneSp.sp = ⟨aheadOf one, behindOf one⟩ := rfl
theorem one_like : Like ([oneSp].map RSp.sp) [⟨aheadOf one, behindOf one⟩] := Like.self
theorem one_normal : Norm ([oneSp].map RSp.sp) := one_norm v100
theorem one_lies (w : World) : LiesS w oneSp := ⟨⟨SRow.none_ _ _, SRow.none_ _ _, Fit.nil, Fit.nil, fun _ => rfl⟩, ⟨SRow.none_ _ _, SRow.none_ _ _, Fit.nil, Fit.nil, fun _ => rfl⟩⟩
/-- What was said of both cuts within. -/
theorem inner_like {a b : Cut} {v : Ver} (h1 : stand a (aheadOf v) = 0) (h2 : stand b (behindOf v) = 0) : cmpV a.v b.v = 0 := by
  obtain ⟨k1, e1⟩ := stand_zero h1
  obtain ⟨k2, e2⟩ := stand_zero h2
  have g1 := e1 ((ofVer_iff a).2 (.inl k1)) rfl
  have g2 := e2 ((ofVer_iff b).2 (.inr k2)) rfl
  have g3 := cmpV_ordr.flip b.v (behindOf v).v
  have g4 := cmpV_ordr.trans a.v (aheadOf v).v b.v (by omega) (by show cmpV (behindOf v).v b.v ≤ 0; omega)
  have g5 := cmpV_ordr.flip a.v (aheadOf v).v
  have g6 := cmpV_ordr.trans b.v (aheadOf v).v a.v (by show cmpV b.v (behindOf v).v ≤ 0; omega) (by omega)
  have g7 := cmpV_ordr.flip a.v b.v
  omega
theorem one_has : ([oneSp].map RSp.sp).any (hasOne (aheadOf one) (behindOf one)) = true := (has_iff one_normal.rights v100).2 ⟨_, List.mem_singleton.2 rfl, Int.le_of_eq (stand_self _), ahead_behind one⟩
theorem one_not {q : List Sp} (h : NotOf ([oneSp].map RSp.sp) q) : q.any (hasOne (aheadOf one) (behindOf one)) = false := by
  rw [← Bool.not_eq_true, has_iff (v := one) h.1.rights v100, h.2, one_normal.inR]
  exact fun k => k.2 ⟨_, List.mem_singleton.2 rfl, Int.le_of_eq (stand_self _), ahead_behind one⟩
set_option maxRecDepth 100000 in
set_option maxHeartbeats 6400000 in
theorem awake_any (w : World) : Calls Tryd.prog 4 #[] w fun e w' => e = .returned (.bool true) ∧ Below w.heap.size w w' := by
  go_enter Tryd.func4, Tryd.ntmps4
  go_wp2_with fail
  refine (not_any none 0 0 [] _ (SpRow.none_ _ _) (by omega)).mono ?_
  rintro e w1 ⟨A1, n1, c1, out1, rfl, hr1, _, hp1, hb1⟩
  obtain ⟨s1, rfl, hs1, hs2⟩ := like_one (not_none hp1)
  obtain rfl : 1 = n1 := hr1.1
  have k1 : s1.lo.kind = 0 := (stand_zero hs1).1
  have k2 : s1.hi.kind = 3 := (stand_zero hs2).1
  have R1 := Lib.hid hr1
  have B1 := Lib.hid hb1
  clear hr1 hp1 hb1 hs1 hs2
  have BX : Hid (Below w1.heap.size w1 ((w1.alloc (.cells #[.int .u64 1, .int .u64 0, .int .u64 0, .slice none 0 0, .slice none 0 0] 31)).alloc (.cells #[.int .i64 1, .int .u64 1, .int .u64 0, .int .u64 0, .slice none 0 0, .slice none 0 0, .int .i64 2, .int .u64 1, .int .u64 0, .int .u64 0, .slice none 0 0, .slice none 0 0] 35))) := ((Below.refl _ _).alloc (Nat.le_refl _) _).alloc (by simp) _
  have P1 : Hid (SpRow ((w1.alloc (.cells #[.int .u64 1, .int .u64 0, .int .u64 0, .slice none 0 0, .slice none 0 0] 31)).alloc (.cells #[.int .i64 1, .int .u64 1, .int .u64 0, .int .u64 0, .slice none 0 0, .slice none 0 0, .int .i64 2, .int .u64 1, .int .u64 0, .int .u64 0, .slice none 0 0, .slice none 0 0] 35)) (some ⟨w1.heap.size + 1, 0, none⟩) 1 [oneSp]) := by
    have q := SpRow.one (w1.alloc (.cells #[.int .u64 1, .int .u64 0, .int .u64 0, .slice none 0 0, .slice none 0 0] 31)) oneSp (one_lies _)
    rw [size_alloc] at q; exact q
  have V1 : Hid (At5 ((w1.alloc (.cells #[.int .u64 1, .int .u64 0, .int .u64 0, .slice none 0 0, .slice none 0 0] 31)).alloc (.cells #[.int .i64 1, .int .u64 1, .int .u64 0, .int .u64 0, .slice none 0 0, .slice none 0 0, .int .i64 2, .int .u64 1, .int .u64 0, .int .u64 0, .slice none 0 0, .slice none 0 0] 35)) w1.heap.size (.int .u64 1) (.int .u64 0) (.int .u64 0) (.slice none 0 0) (.slice none 0 0)) := (At5.new w1 31 _ _ _ _ _).kept ((Below.refl _ _).alloc (Nat.le_refl _) _) (by simp)
  go_upto_region 4 with (fail)
  generalize ((w1.alloc (.cells #[.int .u64 1, .int .u64 0, .int .u64 0, .slice none 0 0, .slice none 0 0] 31)).alloc (.cells #[.int .i64 1, .int .u64 1, .int .u64 0, .int .u64 0, .slice none 0 0, .slice none 0 0, .int .i64 2, .int .u64 1, .int .u64 0, .int .u64 0, .slice none 0 0, .slice none 0 0] 35)) = W at BX P1 V1 ⊢
  go_wp2_with fail
  refine (not_any _ 1 1 [oneSp] _ P1.out (by omega)).mono ?_
  rintro e w2 ⟨A2, n2, c2, out2, rfl, hr2, _, hp2, hb2⟩
  have HN := Lib.hid (one_not hp2)
  have HG := Lib.hid ((goodS_norm _).2 hp2.1)
  obtain ⟨q0, q1, rfl, hq0, hq1, hq2, hq3⟩ := like_two (not_one v100 one_like one_normal hp2)
  obtain rfl : 2 = n2 := hr2.1
  have HI := Lib.hid (inner_like hq1 hq2)
  have HP : Hid (q0.hi.v.pre.length ≤ 1000) := by
    have := (right_few (((cnt_iff _).1 (hp2.1.cnt q0.sp (List.mem_cons_self ..))).2.1)).1
    exact Nat.le_trans this (by omega)
  have R2 := Lib.hid hr2
  have B2 := Lib.hid hb2
  have PP := Lib.hid (P1.out.kept hb2)
  have VV := Lib.hid (V1.out.kept hb2 V1.out.1)
  have RR := Lib.hid ((R1.out.kept BX.out).kept hb2)
  have BB := Lib.hid (B1.out.trans ((BX.out.trans (hb2.mono BX.out.size)).mono B1.out.size))
  clear hr2 hp2 hb2 hq0 hq1 hq2 hq3
  obtain ⟨b1, o1, rfl, hb1, hc1⟩ := RR.out.2.2 (by omega)
  have y0 := hc1 0 (by omega) 0 _ rfl
  have y6 := hc1 0 (by omega) 6 _ rfl
  clear hc1
  simp only [Nat.zero_mul, Nat.add_zero] at y0 y6
  replace y0 : w2.cell? ⟨b1, o1, none⟩ = some (.int .i64 0) := y0.trans (by rw [← k1]; rfl)
  replace y6 : w2.cell? ⟨b1, o1 + 6, none⟩ = some (.int .i64 3) := y6.trans (by rw [← k2]; rfl)
  go_wp2_with fail
  refine (points_two _ _ q0 q1 _ R2.out HG.out HI.out HP.out).mono ?_
  rintro e w3 ⟨P3, c3, rfl, hb3⟩
  have R3 := Lib.hid (R2.out.kept hb3)
  have PP3 := Lib.hid (PP.out.kept hb3)
  have VV3 := Lib.hid (VV.out.kept hb3 VV.out.1)
  have B3 := Lib.hid (BB.out.trans (hb3.mono BB.out.size))
  clear hb3 y0 y6
  obtain ⟨_, _, v0, v1, v2, v3, v4⟩ := VV3.out
  go_wp2_with fail
  refine (has_any _ 2 _ [q0, q1] one none 0 none 0 _ R3.out (by omega) (SRow.none_ _ _) Fit.nil (fun _ => rfl)).mono ?_
  rintro e w4 ⟨he, hb4⟩
  rw [HN.out] at he
  subst he
  have PP4 := Lib.hid (PP3.out.kept hb4)
  have VV4 := Lib.hid (VV3.out.kept hb4 VV3.out.1)
  have B4 := Lib.hid (B3.out.trans (hb4.mono B3.out.size))
  clear hb4 v0 v1 v2 v3 v4
  obtain ⟨_, _, v0, v1, v2, v3, v4⟩ := VV4.out
  go_wp2_with fail
  refine (has_any _ 1 _ [oneSp] one none 0 none 0 _ PP4.out (by omega) (SRow.none_ _ _) Fit.nil (fun _ => rfl)).mono ?_
  rintro e w5 ⟨he, hb5⟩
  rw [one_has] at he
  subst he
  have B5 := Lib.hid (B4.out.trans (hb5.mono B4.out.size))
  clear hb5 v0 v1 v2 v3 v4
  go_wp2
  go_ret
  exact ⟨rfl, B5.out⟩
end Go.Proofs.YtdbdeadcffpbfaaDoor.Span

namespace Go.Proofs.YtdbdeadcffpbfaaDoor.Span
open Go.RowKit Num Ident Semver Prec

/-- span.Same says yes of sets with like cuts. -/
theorem sameL_any (A : Option Addr) (n ca : Nat) (l : List RSp) (B : Option Addr) (m cb : Nat) (r : List RSp) (w : World) (hr : SpRow w A n l) (hr2 : SpRow w B m r) (hn : n ≤ 100000) (h : Like (l.map RSp.sp) (r.map RSp.sp)) (hl : Rights (l.map RSp.sp)) (hr' : Rights (r.map RSp.sp)) :
    Calls Tryd.prog 9 #[.slice A n ca, .slice B m cb] w fun e w' => e = .returned (.bool true) ∧ Below w.heap.size w w' := by
  obtain rfl : n = m := by have := h.length; rw [List.length_map, List.length_map, hr.1, hr2.1] at this; exact this
  exact sameS_any A n ca l B cb r w hr hr2 hn (h.zero hl hr' (by rw [hr.1]; exact Nat.le_refl _))
set_option maxRecDepth 100000 in
set_option maxHeartbeats 6400000 in
theorem spanLaws_any (A : Option Addr) (n c : Nat) (l : List RSp) (w : World) (hr : SpRow w A n l) (hn : n ≤ maxLen) :
    Calls Tryd.prog 3 #[.slice A n c] w fun e w' => e = .returned (.bool true) ∧ Below w.heap.size w w' := by
  have HR := Lib.hid hr
  have HM := Lib.hid hn
  clear hr hn
  go_enter Tryd.func3, Tryd.ntmps3
  go_wp2_with fail
  refine (awake_any _).mono ?_
  rintro e w1 ⟨rfl, hb⟩
  have HB := Lib.hid hb
  replace HR := Lib.hid (HR.out.kept hb)
  clear hb
  go_wp2_with fail
  refine (few_any _ _ _ l _ HR.out HM.out).mono ?_
  rintro e w2 ⟨b, rfl, hb12, rfl⟩
  cases b
  · go_wp2
    go_ret
    exact ⟨rfl, HB.out⟩
  replace hb12 := hb12 rfl
  go_wp2_with fail
  refine (normal_any _ _ _ l _ HR.out (by omega)).mono ?_
  rintro e w3 ⟨An, nn, cn, on, rfl, hr, hn, hp, hb⟩
  replace HR := Lib.hid (HR.out.kept hb)
  replace HB := Lib.hid (HB.out.trans (hb.mono HB.out.size))
  clear hb
  have Rn := Lib.hid hr
  have Pn := Lib.hid hp
  clear hr hp
  go_wp2_with fail
  refine (not_any _ _ _ on _ Rn.out (by omega)).mono ?_
  rintro e w4 ⟨Am, nm, cm, om, rfl, hr, hm, hp, hb⟩
  replace HR := Lib.hid (HR.out.kept hb)
  replace Rn := Lib.hid (Rn.out.kept hb)
  replace HB := Lib.hid (HB.out.trans (hb.mono HB.out.size))
  clear hb
  have Rm := Lib.hid hr
  have Pm := Lib.hid hp
  clear hr hp
  go_wp2_with fail
  refine (goodS_any _ _ _ on _ Rn.out (by omega)).mono ?_
  rintro e w5 ⟨he, hb⟩
  rw [(goodS_norm _).2 Pn.out.1] at he
  subst he
  replace HR := Lib.hid (HR.out.kept hb)
  replace Rn := Lib.hid (Rn.out.kept hb)
  replace Rm := Lib.hid (Rm.out.kept hb)
  replace HB := Lib.hid (HB.out.trans (hb.mono HB.out.size))
  clear hb
  go_wp2_with fail
  refine (normal_any _ _ _ on _ Rn.out (by omega)).mono ?_
  rintro e w6 ⟨Ap, np, cp, op, rfl, hr, hp, hp, hb⟩
  replace HR := Lib.hid (HR.out.kept hb)
  replace Rn := Lib.hid (Rn.out.kept hb)
  replace Rm := Lib.hid (Rm.out.kept hb)
  replace HB := Lib.hid (HB.out.trans (hb.mono HB.out.size))
  clear hb
  have Rp := Lib.hid hr
  have Pp := Lib.hid hp
  clear hr hp
  go_wp2_with fail
  refine (sameL_any _ _ _ op _ _ _ on _ Rp.out Rn.out (by omega) (normal_again Pn.out Pp.out) Pp.out.1.rights Pn.out.1.rights).mono ?_
  rintro e w7 ⟨rfl, hb⟩
  replace HR := Lib.hid (HR.out.kept hb)
  replace Rn := Lib.hid (Rn.out.kept hb)
  replace Rm := Lib.hid (Rm.out.kept hb)
  replace Rp := Lib.hid (Rp.out.kept hb)
  replace HB := Lib.hid (HB.out.trans (hb.mono HB.out.size))
  clear hb
  go_wp2_with fail
  refine (not_any _ _ _ om _ Rm.out (by omega)).mono ?_
  rintro e w8 ⟨Aq, nq, cq, oq, rfl, hr, hq, hp, hb⟩
  replace HR := Lib.hid (HR.out.kept hb)
  replace Rn := Lib.hid (Rn.out.kept hb)
  replace Rm := Lib.hid (Rm.out.kept hb)
  replace Rp := Lib.hid (Rp.out.kept hb)
  replace HB := Lib.hid (HB.out.trans (hb.mono HB.out.size))
  clear hb
  have Rq := Lib.hid hr
  have Pq := Lib.hid hp
  clear hr hp
  go_wp2_with fail
  refine (sameL_any _ _ _ oq _ _ _ on _ Rq.out Rn.out (by omega) (not_not Pn.out.1 Pm.out Pq.out) Pq.out.1.rights Pn.out.1.rights).mono ?_
  rintro e w9 ⟨rfl, hb⟩
  replace HR := Lib.hid (HR.out.kept hb)
  replace Rn := Lib.hid (Rn.out.kept hb)
  replace Rm := Lib.hid (Rm.out.kept hb)
  replace Rp := Lib.hid (Rp.out.kept hb)
  replace Rq := Lib.hid (Rq.out.kept hb)
  replace HB := Lib.hid (HB.out.trans (hb.mono HB.out.size))
  clear hb
  go_wp2_with fail
  refine (meet_any _ _ _ on _ _ _ om _ Rn.out Rm.out (by omega) (by omega)).mono ?_
  rintro e w10 ⟨Ak, nk, ck, ok, rfl, hr, hk, hp, hb⟩
  replace HR := Lib.hid (HR.out.kept hb)
  replace Rn := Lib.hid (Rn.out.kept hb)
  replace Rm := Lib.hid (Rm.out.kept hb)
  replace Rp := Lib.hid (Rp.out.kept hb)
  replace Rq := Lib.hid (Rq.out.kept hb)
  replace HB := Lib.hid (HB.out.trans (hb.mono HB.out.size))
  clear hb
  have Rk := Lib.hid hr
  have Pk := Lib.hid hp
  clear hr hp
  obtain rfl : 0 = nk := by have h1 := meet_none Pm.out Pk.out; rw [List.length_map, Rk.out.1] at h1; exact h1.symm
  go_wp2_with fail
  refine (union_any _ _ _ on _ _ _ om _ Rn.out Rm.out (by omega) (by omega)).mono ?_
  rintro e w11 ⟨Au, nu, cu, ou, rfl, hr, hu, hp, hb⟩
  replace HR := Lib.hid (HR.out.kept hb)
  replace Rn := Lib.hid (Rn.out.kept hb)
  replace Rm := Lib.hid (Rm.out.kept hb)
  replace Rp := Lib.hid (Rp.out.kept hb)
  replace Rq := Lib.hid (Rq.out.kept hb)
  replace Rk := Lib.hid (Rk.out.kept hb)
  replace HB := Lib.hid (HB.out.trans (hb.mono HB.out.size))
  clear hb
  have Ru := Lib.hid hr
  have Pu := Lib.hid hp
  clear hr hp
  go_wp2_with fail
  refine (not_any none 0 0 [] _ (SpRow.none_ _ _) (by omega)).mono ?_
  rintro e w12 ⟨Aa, na, ca, oa, rfl, hr, ha, hp, hb⟩
  replace HR := Lib.hid (HR.out.kept hb)
  replace Rn := Lib.hid (Rn.out.kept hb)
  replace Rm := Lib.hid (Rm.out.kept hb)
  replace Rp := Lib.hid (Rp.out.kept hb)
  replace Rq := Lib.hid (Rq.out.kept hb)
  replace Rk := Lib.hid (Rk.out.kept hb)
  replace Ru := Lib.hid (Ru.out.kept hb)
  replace HB := Lib.hid (HB.out.trans (hb.mono HB.out.size))
  clear hb
  have Ra := Lib.hid hr
  have Pa := Lib.hid hp
  clear hr hp
  go_wp2_with fail
  refine (sameL_any _ _ _ ou _ _ _ oa _ Ru.out Ra.out (by omega) (union_all Pn.out.1 Pm.out Pu.out Pa.out) Pu.out.1.rights Pa.out.1.rights).mono ?_
  rintro e w13 ⟨rfl, hb⟩
  replace HR := Lib.hid (HR.out.kept hb)
  replace Rn := Lib.hid (Rn.out.kept hb)
  replace Rm := Lib.hid (Rm.out.kept hb)
  replace Rp := Lib.hid (Rp.out.kept hb)
  replace Rq := Lib.hid (Rq.out.kept hb)
  replace Rk := Lib.hid (Rk.out.kept hb)
  replace Ru := Lib.hid (Ru.out.kept hb)
  replace Ra := Lib.hid (Ra.out.kept hb)
  replace HB := Lib.hid (HB.out.trans (hb.mono HB.out.size))
  clear hb
  go_wp2_with fail
  refine (goodS_any _ _ _ l _ HR.out (by omega)).mono ?_
  rintro e w14 ⟨rfl, hb⟩
  replace HR := Lib.hid (HR.out.kept hb)
  replace Rn := Lib.hid (Rn.out.kept hb)
  replace Rm := Lib.hid (Rm.out.kept hb)
  replace Rp := Lib.hid (Rp.out.kept hb)
  replace Rq := Lib.hid (Rq.out.kept hb)
  replace Rk := Lib.hid (Rk.out.kept hb)
  replace Ru := Lib.hid (Ru.out.kept hb)
  replace Ra := Lib.hid (Ra.out.kept hb)
  replace HB := Lib.hid (HB.out.trans (hb.mono HB.out.size))
  clear hb
  cases hg : goodS (l.map RSp.sp)
  · go_wp2
    go_ret
    exact ⟨rfl, HB.out⟩
  have PL := Lib.hid ((goodS_norm _).1 hg)
  clear hg
  go_wp2_with fail
  refine (sameL_any _ _ _ l _ _ _ on _ HR.out Rn.out (by omega) (normal_stays Pn.out PL.out) PL.out.rights Pn.out.1.rights).mono ?_
  rintro e w15 ⟨rfl, hb⟩
  replace HR := Lib.hid (HR.out.kept hb)
  replace Rn := Lib.hid (Rn.out.kept hb)
  replace Rm := Lib.hid (Rm.out.kept hb)
  replace Rp := Lib.hid (Rp.out.kept hb)
  replace Rq := Lib.hid (Rq.out.kept hb)
  replace Rk := Lib.hid (Rk.out.kept hb)
  replace Ru := Lib.hid (Ru.out.kept hb)
  replace Ra := Lib.hid (Ra.out.kept hb)
  replace HB := Lib.hid (HB.out.trans (hb.mono HB.out.size))
  clear hb
  go_wp2
  go_ret
  exact ⟨rfl, HB.out⟩
end Go.Proofs.YtdbdeadcffpbfaaDoor.Span
