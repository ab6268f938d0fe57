/-
  The edges of the spans that count (span.edges); the question whether versions are covered often enough (span.atLeast). Conditions: the slice reads as the list of spans l; their number is small enough.
-/
import Derived.Test.YtdbdeadcffpbfaaGreatDoorSpCuts
import Derived.Test.YtdbdeadcffpbfaaGreatDoorSpOwn
namespace Go.Proofs.YtdbdeadcffpbfaaGreatDoor.Span
open Go.RowKit Num Ident Semver Prec

def EdgesJ (w : World) (n : Nat) (l : List RSp) (step : Int) (v iv : Value) (W : World) : Prop :=
  ∃ (k : Nat) (re : List REdge), k ≤ n ∧ iv = .int .i64 k ∧ W.ownsRow w.heap.size 55 7 v re.length (re.flatMap REdge.vals) ∧ re.map REdge.edge = edgesOf ((l.take k).map RSp.sp) step ∧ (∀ e ∈ re, Lies w e.cut) ∧ re.length ≤ 2 * k ∧ Below w.heap.size w W
/-- What edges leaves. -/
def EdgesPost (w : World) (l : List RSp) (step : Int) (e : Ending) (w' : World) : Prop :=
  ∃ (v : Value) (re : List REdge), e = .returned v ∧ w'.ownsRow w.heap.size 55 7 v re.length (re.flatMap REdge.vals) ∧ re.map REdge.edge = edgesOf (l.map RSp.sp) step ∧ (∀ e ∈ re, Lies w e.cut) ∧ re.length ≤ 2 * l.length ∧ Below w.heap.size w w'
theorem take_sp (l : List RSp) (k : Nat) (h : k < l.length) : (l.take (k + 1)).map RSp.sp = (l.take k).map RSp.sp ++ [(l.getD k default).sp] := by
  rw [List.take_succ_eq_append_getElem h, List.map_append]; simp [List.getD, List.getElem?_eq_getElem h]

set_option maxRecDepth 100000 in
set_option maxHeartbeats 3200000 in
theorem edges_any (A : Option Addr) (n c : Nat) (l : List RSp) (step : Int) (w : World) (hr : SpRow w A n l) (hn : n ≤ 100000) (h1 : -10 ≤ step) (h2 : step ≤ 10) :
    Calls Tryz.prog 21 #[.slice A n c, .int .i64 step] w (EdgesPost w l step) := by
  have HR := Lib.hid hr
  have HL := Lib.hid hr.1
  clear hr
  go_enter Tryz.func21, Tryz.ntmps21
  go_wp2
  go_loopw [5, 10] (fun v i W => EdgesJ w n l step v i W) (fun _ i _ => n - (intOf i).toNat)
  case atStart => exact ⟨0, [], Nat.zero_le _, rfl, World.ownsRow_nil _ _ _ _, by simp [edgesOf], (fun e he => by cases he), Nat.zero_le _, Below.refl _ _⟩
  case round =>
    obtain ⟨k, re, hk, rfl, hown, hmap, hlie, hlen, hbel⟩ := hrel
    have HO := Lib.hid hown
    have HM := Lib.hid hmap
    have HI := Lib.hid hlie
    have HB := Lib.hid hbel
    have hsz := hbel.size
    clear hown hmap hlie hbel
    by_cases hlt : k < n
    · obtain ⟨b, o, rfl, hb, hc⟩ := (HR.out.kept HB.out).2.2 (by omega)
      obtain ⟨x0, x1, x2, x3, x4, x5, x6, x7, x8, x9, x10, x11⟩ := SpRow.cells hc hlt
      have HS0 := Lib.hid (HR.out.lies hlt)
      have HS := Lib.hid (HS0.out.kept HB.out)
      have HT := Lib.hid (take_sp l k (by rw [HL.out]; exact hlt))
      clear hc
      generalize l.getD k default = s at x0 x1 x2 x3 x4 x5 x6 x7 x8 x9 x10 x11 HS HS0 HT
      have HW : Hid (Below w.heap.size w (wr.alloc (.cells #[.int .i64 s.lo.kind, .int .u64 (s.lo.v.a : Int), .int .u64 (s.lo.v.b : Int), .int .u64 (s.lo.v.c : Int), .slice s.lo.A s.lo.v.pre.length s.lo.c, .slice s.lo.B s.lo.v.build.length s.lo.d, .int .i64 s.hi.kind, .int .u64 (s.hi.v.a : Int), .int .u64 (s.hi.v.b : Int), .int .u64 (s.hi.v.c : Int), .slice s.hi.A s.hi.v.pre.length s.hi.c, .slice s.hi.B s.hi.v.build.length s.hi.d] 37))) := HB.out.alloc hsz _
      have HS1 := Lib.hid (HS.out.kept ((Below.refl wr.heap.size wr).alloc (Nat.le_refl _) (.cells #[.int .i64 s.lo.kind, .int .u64 (s.lo.v.a : Int), .int .u64 (s.lo.v.b : Int), .int .u64 (s.lo.v.c : Int), .slice s.lo.A s.lo.v.pre.length s.lo.c, .slice s.lo.B s.lo.v.build.length s.lo.d, .int .i64 s.hi.kind, .int .u64 (s.hi.v.a : Int), .int .u64 (s.hi.v.b : Int), .int .u64 (s.hi.v.c : Int), .slice s.hi.A s.hi.v.pre.length s.hi.c, .slice s.hi.B s.hi.v.build.length s.hi.d] 37)))
      have HO1 := Lib.hid (HO.out.alloc (.cells #[.int .i64 s.lo.kind, .int .u64 (s.lo.v.a : Int), .int .u64 (s.lo.v.b : Int), .int .u64 (s.lo.v.c : Int), .slice s.lo.A s.lo.v.pre.length s.lo.c, .slice s.lo.B s.lo.v.build.length s.lo.d, .int .i64 s.hi.kind, .int .u64 (s.hi.v.a : Int), .int .u64 (s.hi.v.b : Int), .int .u64 (s.hi.v.c : Int), .slice s.hi.A s.hi.v.pre.length s.hi.c, .slice s.hi.B s.hi.v.build.length s.hi.d] 37))
      have K1 : Hid (At12B (wr.alloc (.cells #[.int .i64 s.lo.kind, .int .u64 (s.lo.v.a : Int), .int .u64 (s.lo.v.b : Int), .int .u64 (s.lo.v.c : Int), .slice s.lo.A s.lo.v.pre.length s.lo.c, .slice s.lo.B s.lo.v.build.length s.lo.d, .int .i64 s.hi.kind, .int .u64 (s.hi.v.a : Int), .int .u64 (s.hi.v.b : Int), .int .u64 (s.hi.v.c : Int), .slice s.hi.A s.hi.v.pre.length s.hi.c, .slice s.hi.B s.hi.v.build.length s.hi.d] 37)) wr.heap.size (.int .i64 s.lo.kind) (.int .u64 (s.lo.v.a : Int)) (.int .u64 (s.lo.v.b : Int)) (.int .u64 (s.lo.v.c : Int)) (.slice s.lo.A s.lo.v.pre.length s.lo.c) (.slice s.lo.B s.lo.v.build.length s.lo.d) (.int .i64 s.hi.kind) (.int .u64 (s.hi.v.a : Int)) (.int .u64 (s.hi.v.b : Int)) (.int .u64 (s.hi.v.c : Int)) (.slice s.hi.A s.hi.v.pre.length s.hi.c) (.slice s.hi.B s.hi.v.build.length s.hi.d)) := At12B.new wr _ _ _ _ _ _ _ _ _ _ _ _ _
      go_upto_region 5 with (fail)
      generalize wr.alloc (.cells #[.int .i64 s.lo.kind, .int .u64 (s.lo.v.a : Int), .int .u64 (s.lo.v.b : Int), .int .u64 (s.lo.v.c : Int), .slice s.lo.A s.lo.v.pre.length s.lo.c, .slice s.lo.B s.lo.v.build.length s.lo.d, .int .i64 s.hi.kind, .int .u64 (s.hi.v.a : Int), .int .u64 (s.hi.v.b : Int), .int .u64 (s.hi.v.c : Int), .slice s.hi.A s.hi.v.pre.length s.hi.c, .slice s.hi.B s.hi.v.build.length s.hi.d] 37) = W1 at HW HS1 HO1 K1 ⊢
      clear x0 x1 x2 x3 x4 x5 x6 x7 x8 x9 x10 x11
      obtain ⟨hz1, _, x0, x1, x2, x3, x4, x5, x6, x7, x8, x9, x10, x11⟩ := K1.out
      go_wp2_with fail
      refine (counts_any s _ HS1.out).mono ?_
      rintro e w2 ⟨rfl, hb2⟩
      have HW2 := Lib.hid (HW.out.trans (hb2.mono HW.out.size))
      have HO2 := Lib.hid (own_below HO1.out hb2)
      have K2 := Lib.hid (K1.out.kept hb2 hz1)
      clear hb2 hz1 x0 x1 x2 x3 x4 x5 x6 x7 x8 x9 x10 x11 HS1 HW HO1 K1
      obtain ⟨hz2, _, x0, x1, x2, x3, x4, x5, x6, x7, x8, x9, x10, x11⟩ := K2.out
      cases hcn : cnt s.sp
      · have HN : Hid (re.map REdge.edge = edgesOf ((l.take (k + 1)).map RSp.sp) step) := by unfold Hid; rw [HT.out, edgesOf_snoc_no _ _ hcn]; exact HM.out
        clear hcn
        go_wp2
        exact ⟨⟨k + 1, re, by omega, by go_num, HO2.out, HN.out, HI.out, by omega, HW2.out⟩, by simp [intOf]; omega⟩
      · have HN : Hid ((re ++ [REdge.mk s.lo step, REdge.mk s.hi (-step)]).map REdge.edge = edgesOf ((l.take (k + 1)).map RSp.sp) step) := by
          unfold Hid; rw [HT.out, edgesOf_snoc_yes _ _ hcn, List.map_append, HM.out, Int.zero_sub]; rfl
        have HI2 : Hid (∀ e ∈ re ++ [REdge.mk s.lo step, REdge.mk s.hi (-step)], Lies w e.cut) := fun e he => by
          rcases List.mem_append.1 he with he | he
          · exact HI.out e he
          · rcases List.mem_cons.1 he with rfl | he
            · exact HS0.out.lo
            · rw [List.mem_singleton] at he; subst he; exact HS0.out.hi
        have HO3 := Lib.hid (HO2.out.alloc (.cells #[.int .i64 s.lo.kind, .int .u64 (s.lo.v.a : Int), .int .u64 (s.lo.v.b : Int), .int .u64 (s.lo.v.c : Int), .slice s.lo.A s.lo.v.pre.length s.lo.c, .slice s.lo.B s.lo.v.build.length s.lo.d, .int .i64 step, .int .i64 s.hi.kind, .int .u64 (s.hi.v.a : Int), .int .u64 (s.hi.v.b : Int), .int .u64 (s.hi.v.c : Int), .slice s.hi.A s.hi.v.pre.length s.hi.c, .slice s.hi.B s.hi.v.build.length s.hi.d, .int .i64 (-step)] 55))
        have HW3 := Lib.hid (HW2.out.alloc HW2.out.size (.cells #[.int .i64 s.lo.kind, .int .u64 (s.lo.v.a : Int), .int .u64 (s.lo.v.b : Int), .int .u64 (s.lo.v.c : Int), .slice s.lo.A s.lo.v.pre.length s.lo.c, .slice s.lo.B s.lo.v.build.length s.lo.d, .int .i64 step, .int .i64 s.hi.kind, .int .u64 (s.hi.v.a : Int), .int .u64 (s.hi.v.b : Int), .int .u64 (s.hi.v.c : Int), .slice s.hi.A s.hi.v.pre.length s.hi.c, .slice s.hi.B s.hi.v.build.length s.hi.d, .int .i64 (-step)] 55))
        have hz3 := HW2.out.size
        clear hcn
        go_wp2_with (first
          | (at_builtin; refine wpList_append_ed _ rfl _ _ rfl w.heap.size _ re.length re rfl HO3.out ⟨w2.heap.size, 0, none⟩ 2 2 [REdge.mk s.lo step, REdge.mk s.hi (-step)] rfl rfl (news_new w2 _ _) (by omega) (by simp; omega) ?_; intro v4 w4 ho4 hb4; have HB4 := Lib.hid (HW3.out.trans hb4); have HO4 := Lib.hid ho4; clear ho4 hb4)
          | fail)
        refine ⟨⟨k + 1, re ++ [REdge.mk s.lo step, REdge.mk s.hi (-step)], by omega, by go_num, ?_, HN.out, HI2.out, by rw [List.length_append]; simp; omega, HB4.out⟩, by simp [intOf]; omega⟩
        rw [List.length_append]; exact HO4.out
    · obtain rfl : k = n := by omega
      have HN : Hid (re.map REdge.edge = edgesOf (l.map RSp.sp) step) := by have := HM.out; rwa [List.take_of_length_le (by rw [HL.out]; exact Nat.le_refl _)] at this
      go_wp2
      refine bodyPost_ret (v := u5) (by simp [results, Tryz.results21, go_sem]) rfl ⟨u5, re, rfl, HO.out, HN.out, HI.out, by rw [HL.out]; exact hlen, HB.out⟩

set_option maxRecDepth 100000 in
set_option maxHeartbeats 800000 in
theorem atLeast_any (m : Int) (w : World) :
    Calls Tryz.prog 22 #[.int .i64 m] w fun e w' => e = .returned (.func (.func 39) #[] #[.pointer (some ⟨w.heap.size, 0, none⟩)]) ∧ w' = w.alloc (.cells #[.int .i64 m] 3) := by
  go_enter Tryz.func22, Tryz.ntmps22
  go_wp2
  go_ret
  exact ⟨rfl, rfl⟩
set_option maxRecDepth 100000 in
set_option maxHeartbeats 800000 in
theorem in_any (t m : Int) (b : Nat) (w : World) (h : w.cell? ⟨b, 0, none⟩ = some (.int .i64 m)) :
    Calls Tryz.prog 39 #[.int .i64 t, .pointer (some ⟨b, 0, none⟩)] w fun e w' => e = .returned (.bool (decide (m ≤ t))) ∧ w = w' := by
  by_cases hm : m ≤ t
  · have HF := Lib.hid (decide_eq_true hm)
    go_enter Tryz.func39, Tryz.ntmps39
    go_wp2
    go_ret
    exact ⟨by rw [HF.out]; rfl, rfl⟩
  · have HF := Lib.hid (decide_eq_false hm)
    have hd : decide (m ≤ t) = false := HF.out
    go_enter Tryz.func39, Tryz.ntmps39
    go_wp2
    go_ret
    exact ⟨rfl, rfl⟩

end Go.Proofs.YtdbdeadcffpbfaaGreatDoor.Span
