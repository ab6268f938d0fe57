/-
  What the theorem of the last text needs of these: SpEdges, SpCopied, SpScope. Conditions: as each theorem states.
-/
import Derived.Test.YtgfbflnhjpbceaaGreatDoorAgaB1
import Derived.Test.YtgfbflnhjpbceaaGreatDoorAgaB16
import Derived.Deep.CutBlock
import Derived.Deep.DeepCutAuto
set_option maxRecDepth 100000
set_option maxHeartbeats 25600000
namespace Go.Proofs.YtgfbflnhjpbceaaGreatDoor.Span
open Go.RowKit Num Ident Semver Prec

def EdgesJ (w : World) (n : Nat) (l : List RSp) (step : Int) (v iv : Value) (W : World) : Prop :=
 ∃ (k : Nat) (re : List REdge), k ≤ n ∧ iv = .int .i64 k ∧ W.ownsRow w.heap.size 111 7 v re.length (re.flatMap REdge.vals) ∧ re.map REdge.edge = edgesOf ((l.take k).map RSp.sp) step ∧ (∀ e ∈ re, Lies w e.cut) ∧ re.length ≤ 2 * k ∧ Below w.heap.size w W
def EdgesPost (w : World) (l : List RSp) (step : Int) (e : Ending) (w' : World) : Prop :=
 ∃ (v : Value) (re : List REdge), e = .returned v ∧ w'.ownsRow w.heap.size 111 7 v re.length (re.flatMap REdge.vals) ∧ re.map REdge.edge = edgesOf (l.map RSp.sp) step ∧ (∀ e ∈ re, Lies w e.cut) ∧ re.length ≤ 2 * l.length ∧ Below w.heap.size w w'
theorem take_sp (l : List RSp) (k : Nat) (h : k < l.length) : (l.take (k + 1)).map RSp.sp = (l.take k).map RSp.sp ++ [(l.getD k default).sp] := by
 rw [List.take_succ_eq_append_getElem h, List.map_append]; simp [List.getD, List.getElem?_eq_getElem h]

theorem edges_any (A : Option Addr) (n c : Nat) (l : List RSp) (step : Int) (w : World) (hr : SpRow w A n l) (hn : n ≤ 100000) (h1 : -10 ≤ step) (h2 : step ≤ 10) :
  Calls Tryz.prog 47 #[.slice A n c, .int .i64 step] w (EdgesPost w l step) := by
 have HR := Lib.hid hr
 have HL := Lib.hid hr.1
 clear hr
 go_enter Tryz.func47, Tryz.ntmps47
 go_wp2
 go_loopw [5, 10] (fun v i W => EdgesJ w n l step v i W) (fun _ i _ => n - (intOf i).toNat)
 case atStart => exact ⟨0, [], Nat.zero_le _, rfl, World.ownsRow_nil _ _ _ _, by simp [edgesOf], (fun e he => by cases he), Nat.zero_le _, Below.refl _ _⟩
 case round =>
  obtain ⟨k, re, hk, rfl, hown, hmap, hlie, hlen, hbel⟩ := hrel
  have HO := Lib.hid hown
  have HM := Lib.hid hmap
  have HI := Lib.hid hlie
  have HB := Lib.hid hbel
  have hsz := hbel.size
  clear hown hmap hlie hbel
  by_cases hlt : k < n
  ·obtain ⟨b, o, rfl, hb, hc⟩ := (HR.out.kept HB.out).2.2 (by omega)
   obtain ⟨x0, x1, x2, x3, x4, x5, x6, x7, x8, x9, x10, x11⟩ := SpRow.cells hc hlt
   have HS0 := Lib.hid (HR.out.lies hlt)
   have HS := Lib.hid (HS0.out.kept HB.out)
   have HT := Lib.hid (take_sp l k (by rw [HL.out]; exact hlt))
   clear hc
   generalize l.getD k default = s at x0 x1 x2 x3 x4 x5 x6 x7 x8 x9 x10 x11 HS HS0 HT
   have HW : Hid (Below w.heap.size w (wr.alloc (.cells #[.int .i64 s.lo.kind, .int .u64 (s.lo.v.a : Int), .int .u64 (s.lo.v.b : Int), .int .u64 (s.lo.v.c : Int), .slice s.lo.A s.lo.v.pre.length s.lo.c, .slice s.lo.B s.lo.v.build.length s.lo.d, .int .i64 s.hi.kind, .int .u64 (s.hi.v.a : Int), .int .u64 (s.hi.v.b : Int), .int .u64 (s.hi.v.c : Int), .slice s.hi.A s.hi.v.pre.length s.hi.c, .slice s.hi.B s.hi.v.build.length s.hi.d] 43))) := HB.out.alloc hsz _
   have HS1 := Lib.hid (HS.out.kept ((Below.refl wr.heap.size wr).alloc (Nat.le_refl _) (.cells #[.int .i64 s.lo.kind, .int .u64 (s.lo.v.a : Int), .int .u64 (s.lo.v.b : Int), .int .u64 (s.lo.v.c : Int), .slice s.lo.A s.lo.v.pre.length s.lo.c, .slice s.lo.B s.lo.v.build.length s.lo.d, .int .i64 s.hi.kind, .int .u64 (s.hi.v.a : Int), .int .u64 (s.hi.v.b : Int), .int .u64 (s.hi.v.c : Int), .slice s.hi.A s.hi.v.pre.length s.hi.c, .slice s.hi.B s.hi.v.build.length s.hi.d] 43)))
   have HO1 := Lib.hid (HO.out.alloc (.cells #[.int .i64 s.lo.kind, .int .u64 (s.lo.v.a : Int), .int .u64 (s.lo.v.b : Int), .int .u64 (s.lo.v.c : Int), .slice s.lo.A s.lo.v.pre.length s.lo.c, .slice s.lo.B s.lo.v.build.length s.lo.d, .int .i64 s.hi.kind, .int .u64 (s.hi.v.a : Int), .int .u64 (s.hi.v.b : Int), .int .u64 (s.hi.v.c : Int), .slice s.hi.A s.hi.v.pre.length s.hi.c, .slice s.hi.B s.hi.v.build.length s.hi.d] 43))
   have K1 : Hid (At12B (wr.alloc (.cells #[.int .i64 s.lo.kind, .int .u64 (s.lo.v.a : Int), .int .u64 (s.lo.v.b : Int), .int .u64 (s.lo.v.c : Int), .slice s.lo.A s.lo.v.pre.length s.lo.c, .slice s.lo.B s.lo.v.build.length s.lo.d, .int .i64 s.hi.kind, .int .u64 (s.hi.v.a : Int), .int .u64 (s.hi.v.b : Int), .int .u64 (s.hi.v.c : Int), .slice s.hi.A s.hi.v.pre.length s.hi.c, .slice s.hi.B s.hi.v.build.length s.hi.d] 43)) wr.heap.size (.int .i64 s.lo.kind) (.int .u64 (s.lo.v.a : Int)) (.int .u64 (s.lo.v.b : Int)) (.int .u64 (s.lo.v.c : Int)) (.slice s.lo.A s.lo.v.pre.length s.lo.c) (.slice s.lo.B s.lo.v.build.length s.lo.d) (.int .i64 s.hi.kind) (.int .u64 (s.hi.v.a : Int)) (.int .u64 (s.hi.v.b : Int)) (.int .u64 (s.hi.v.c : Int)) (.slice s.hi.A s.hi.v.pre.length s.hi.c) (.slice s.hi.B s.hi.v.build.length s.hi.d)) := At12B.new wr _ _ _ _ _ _ _ _ _ _ _ _ _
   go_upto_region 5 with (fail)
   generalize wr.alloc (.cells #[.int .i64 s.lo.kind, .int .u64 (s.lo.v.a : Int), .int .u64 (s.lo.v.b : Int), .int .u64 (s.lo.v.c : Int), .slice s.lo.A s.lo.v.pre.length s.lo.c, .slice s.lo.B s.lo.v.build.length s.lo.d, .int .i64 s.hi.kind, .int .u64 (s.hi.v.a : Int), .int .u64 (s.hi.v.b : Int), .int .u64 (s.hi.v.c : Int), .slice s.hi.A s.hi.v.pre.length s.hi.c, .slice s.hi.B s.hi.v.build.length s.hi.d] 43) = W1 at HW HS1 HO1 K1 ⊢
   clear x0 x1 x2 x3 x4 x5 x6 x7 x8 x9 x10 x11
   obtain ⟨hz1, _, x0, x1, x2, x3, x4, x5, x6, x7, x8, x9, x10, x11⟩ := K1.out
   go_wp2_with fail
   refine (counts_any s _ HS1.out).mono ?_
   rintro e w2 ⟨rfl, hb2⟩
   have HW2 := Lib.hid (HW.out.trans (hb2.mono HW.out.size))
   have HO2 := Lib.hid (own_below HO1.out hb2)
   have K2 := Lib.hid (K1.out.kept hb2 hz1)
   clear hb2 hz1 x0 x1 x2 x3 x4 x5 x6 x7 x8 x9 x10 x11 HS1 HW HO1 K1
   obtain ⟨hz2, _, x0, x1, x2, x3, x4, x5, x6, x7, x8, x9, x10, x11⟩ := K2.out
   cases hcn : cnt s.sp
   ·have HN : Hid (re.map REdge.edge = edgesOf ((l.take (k + 1)).map RSp.sp) step) := by unfold Hid; rw [HT.out, edgesOf_snoc_no _ _ hcn]; exact HM.out
    clear hcn
    go_wp2
    exact ⟨⟨k + 1, re, by omega, by go_num, HO2.out, HN.out, HI.out, by omega, HW2.out⟩, by simp [intOf]; omega⟩
   ·have HN : Hid ((re ++ [REdge.mk s.lo step, REdge.mk s.hi (-step)]).map REdge.edge = edgesOf ((l.take (k + 1)).map RSp.sp) step) := by
     unfold Hid; rw [HT.out, edgesOf_snoc_yes _ _ hcn, List.map_append, HM.out, Int.zero_sub]; rfl
    have HI2 : Hid (∀ e ∈ re ++ [REdge.mk s.lo step, REdge.mk s.hi (-step)], Lies w e.cut) := fun e he => by
     rcases List.mem_append.1 he with he | he
     ·exact HI.out e he
     ·rcases List.mem_cons.1 he with rfl | he
      ·exact HS0.out.lo
      ·rw [List.mem_singleton] at he; subst he; exact HS0.out.hi
    have HO3 := Lib.hid (HO2.out.alloc (.cells #[.int .i64 s.lo.kind, .int .u64 (s.lo.v.a : Int), .int .u64 (s.lo.v.b : Int), .int .u64 (s.lo.v.c : Int), .slice s.lo.A s.lo.v.pre.length s.lo.c, .slice s.lo.B s.lo.v.build.length s.lo.d, .int .i64 step, .int .i64 s.hi.kind, .int .u64 (s.hi.v.a : Int), .int .u64 (s.hi.v.b : Int), .int .u64 (s.hi.v.c : Int), .slice s.hi.A s.hi.v.pre.length s.hi.c, .slice s.hi.B s.hi.v.build.length s.hi.d, .int .i64 (-step)] 111))
    have HW3 := Lib.hid (HW2.out.alloc HW2.out.size (.cells #[.int .i64 s.lo.kind, .int .u64 (s.lo.v.a : Int), .int .u64 (s.lo.v.b : Int), .int .u64 (s.lo.v.c : Int), .slice s.lo.A s.lo.v.pre.length s.lo.c, .slice s.lo.B s.lo.v.build.length s.lo.d, .int .i64 step, .int .i64 s.hi.kind, .int .u64 (s.hi.v.a : Int), .int .u64 (s.hi.v.b : Int), .int .u64 (s.hi.v.c : Int), .slice s.hi.A s.hi.v.pre.length s.hi.c, .slice s.hi.B s.hi.v.build.length s.hi.d, .int .i64 (-step)] 111))
    have hz3 := HW2.out.size
    clear hcn
    go_wp2_with (first
     | (at_builtin; refine wpList_append_ed _ rfl _ _ rfl w.heap.size _ re.length re rfl HO3.out ⟨w2.heap.size, 0, none⟩ 2 2 [REdge.mk s.lo step, REdge.mk s.hi (-step)] rfl rfl (news_new w2 _ _) (by omega) (by simp; omega) ?_; intro v4 w4 ho4 hb4; have HB4 := Lib.hid (HW3.out.trans hb4); have HO4 := Lib.hid ho4; clear ho4 hb4)
     | fail)
    refine ⟨⟨k + 1, re ++ [REdge.mk s.lo step, REdge.mk s.hi (-step)], by omega, by go_num, ?_, HN.out, HI2.out, by rw [List.length_append]; simp; omega, HB4.out⟩, by simp [intOf]; omega⟩
    rw [List.length_append]; exact HO4.out
  ·obtain rfl : k = n := by omega
   have HN : Hid (re.map REdge.edge = edgesOf (l.map RSp.sp) step) := by have := HM.out; rwa [List.take_of_length_le (by rw [HL.out]; exact Nat.le_refl _)] at this
   go_wp2
   refine bodyPost_ret (v := u5) (by simp [results, Tryz.results47, go_sem]) rfl ⟨u5, re, rfl, HO.out, HN.out, HI.out, by rw [HL.out]; exact hlen, HB.out⟩

theorem atLeast_any (m : Int) (w : World) :
  Calls Tryz.prog 48 #[.int .i64 m] w fun e w' => e = .returned (.func (.func 86) #[] #[.pointer (some ⟨w.heap.size, 0, none⟩)]) ∧ w' = w.alloc (.cells #[.int .i64 m] 3) := by
 go_enter Tryz.func48, Tryz.ntmps48
 go_wp2
 go_ret
 exact ⟨rfl, rfl⟩
theorem in_any (t m : Int) (b : Nat) (w : World) (h : w.cell? ⟨b, 0, none⟩ = some (.int .i64 m)) :
  Calls Tryz.prog 86 #[.int .i64 t, .pointer (some ⟨b, 0, none⟩)] w fun e w' => e = .returned (.bool (decide (m ≤ t))) ∧ w = w' := by
 by_cases hm : m ≤ t
 ·have HF := Lib.hid (decide_eq_true hm)
  go_enter Tryz.func86, Tryz.ntmps86
  go_wp2
  go_ret
  exact ⟨by rw [HF.out]; rfl, rfl⟩
 ·have HF := Lib.hid (decide_eq_false hm)
  have hd : decide (m ≤ t) = false := HF.out
  go_enter Tryz.func86, Tryz.ntmps86
  go_wp2
  go_ret
  exact ⟨rfl, rfl⟩

end Go.Proofs.YtgfbflnhjpbceaaGreatDoor.Span
namespace Go.Proofs.YtgfbflnhjpbceaaGreatDoor.Span
open Go.RowKit Num Ident Semver Prec

theorem At6B.set4 {W : World} {b : Nat} {u0 u1 u2 u3 u4 u5 : Value} (h : At6B W b u0 u1 u2 u3 u4 u5) (v : Value) : At6B (W.setCell ⟨b, 4, none⟩ v) b u0 u1 u2 u3 v u5 := by
 obtain ⟨h1, h2, c0, c1, c2, c3, c4, c5⟩ := h
 refine ⟨by simpa using h1, fun o => by simp [go_sem, h2], ?_, ?_, ?_, ?_, ?_, ?_⟩ <;> simp [go_sem, c0, c1, c2, c3, c4, c5]
theorem At6B.set5 {W : World} {b : Nat} {u0 u1 u2 u3 u4 u5 : Value} (h : At6B W b u0 u1 u2 u3 u4 u5) (v : Value) : At6B (W.setCell ⟨b, 5, none⟩ v) b u0 u1 u2 u3 u4 v := by
 obtain ⟨h1, h2, c0, c1, c2, c3, c4, c5⟩ := h
 refine ⟨by simpa using h1, fun o => by simp [go_sem, h2], ?_, ?_, ?_, ?_, ?_, ?_⟩ <;> simp [go_sem, c0, c1, c2, c3, c4, c5]
theorem At6B.beside {W : World} {b b' o : Nat} {u0 u1 u2 u3 u4 u5 : Value} (h : At6B W b u0 u1 u2 u3 u4 u5) (hb : b ≠ b') (v : Value) : At6B (W.setCell ⟨b', o, none⟩ v) b u0 u1 u2 u3 u4 u5 := by
 obtain ⟨h1, h2, c0, c1, c2, c3, c4, c5⟩ := h
 have k : ∀ j, (W.setCell ⟨b', o, none⟩ v).cell? ⟨b, j, none⟩ = W.cell? ⟨b, j, none⟩ := fun j => World.cell?_setCell_other _ _ _ _ (by intro e; injection e with e; exact hb e.symm)
 exact ⟨by simpa using h1, fun o => by simp [go_sem, h2], (k 0).trans c0, (k 1).trans c1, (k 2).trans c2, (k 3).trans c3, (k 4).trans c4, (k 5).trans c5⟩
def set6 (w : World) (b : Nat) (v0 v1 v2 v3 v4 v5 : Value) : World := (((((w.setCell ⟨b, 0, none⟩ v0).setCell ⟨b, 1, none⟩ v1).setCell ⟨b, 2, none⟩ v2).setCell ⟨b, 3, none⟩ v3).setCell ⟨b, 4, none⟩ v4).setCell ⟨b, 5, none⟩ v5
theorem At6B.set6 {W : World} {b : Nat} {u0 u1 u2 u3 u4 u5 : Value} (h : At6B W b u0 u1 u2 u3 u4 u5) (v0 v1 v2 v3 v4 v5 : Value) : At6B (Span.set6 W b v0 v1 v2 v3 v4 v5) b v0 v1 v2 v3 v4 v5 := by
 obtain ⟨h1, h2, c0, c1, c2, c3, c4, c5⟩ := h
 unfold Span.set6
 refine ⟨by simpa using h1, fun o => by simp [go_sem, h2], ?_, ?_, ?_, ?_, ?_, ?_⟩ <;> simp [go_sem, c0, c1, c2, c3, c4, c5]
theorem below_set6 {B : Nat} {a w : World} (h : Below B a w) {b : Nat} (hb : B ≤ b) (v0 v1 v2 v3 v4 v5 : Value) : Below B a (Span.set6 w b v0 v1 v2 v3 v4 v5) :=
 (((((h.setCell (p := ⟨b, 0, none⟩) hb v0).setCell (p := ⟨b, 1, none⟩) hb v1).setCell (p := ⟨b, 2, none⟩) hb v2).setCell (p := ⟨b, 3, none⟩) hb v3).setCell (p := ⟨b, 4, none⟩) hb v4).setCell (p := ⟨b, 5, none⟩) hb v5
structure OwnC (w : World) (B : Nat) (r : RCut) : Prop where
 own : w.ownsRow B 9 1 (.slice r.A r.v.pre.length r.c) r.v.pre.length (strs r.v.pre)
 rb : r.B = none
 rd : r.d = 0
 build : r.v.build = []
 fit : Fit r.v.pre
theorem OwnC.lies {w : World} {B : Nat} {r : RCut} (h : OwnC w B r) : Lies w r := by
 obtain ⟨A, c, e, _, hr⟩ := SRow.of_own h.own
 injection e with e1 e2 e3
 subst e1
 exact ⟨hr, by rw [h.build]; exact SRow.none_ _ _, h.fit, by rw [h.build]; exact Fit.nil⟩
theorem own_mono {w : World} {B B' : Nat} {e : TypeId} {size : Nat} {v : Value} {n : Nat} {xs : List Value} (h : w.ownsRow B e size v n xs) (hB : B' ≤ B) : w.ownsRow B' e size v n xs := by
 refine ⟨h.1, ?_⟩
 rcases h.2 with h2 | ⟨g, cap, cur, hv, hg, r⟩
 ·exact .inl h2
 ·exact .inr ⟨g, cap, cur, hv, Nat.le_trans hB hg, r⟩
theorem OwnC.mono {w : World} {B B' : Nat} {r : RCut} (h : OwnC w B r) (hB : B' ≤ B) : OwnC w B' r := ⟨own_mono h.own hB, h.rb, h.rd, h.build, h.fit⟩
theorem OwnC.kept {w w' : World} {B : Nat} {r : RCut} (h : OwnC w B r) (hb : Below w.heap.size w w') : OwnC w' B r := ⟨own_below h.own hb, h.rb, h.rd, h.build, h.fit⟩
theorem OwnC.set {w : World} {B : Nat} {r : RCut} (h : OwnC w B r) {b o : Nat} (hb : b < B) (v : Value) : OwnC (w.setCell ⟨b, o, none⟩ v) B r := ⟨ownsRow_setCell_below h.own hb v, h.rb, h.rd, h.build, h.fit⟩
theorem OwnC.set6 {w : World} {B : Nat} {r : RCut} (h : OwnC w B r) {b : Nat} (hb : b < B) (v0 v1 v2 v3 v4 v5 : Value) : OwnC (Span.set6 w b v0 v1 v2 v3 v4 v5) B r := (((((h.set hb v0).set hb v1).set hb v2).set hb v3).set hb v4).set hb v5
theorem OwnC.grown {w w' : World} {B B2 : Nat} {r : RCut} {set : Value} {n : Nat} {xs : List Value} (h : OwnC w B r) (hs : w.ownsRow B2 43 12 set n xs) (hg : w.grownBy w' set.ownBlock) : OwnC w' B r :=
 ⟨h.own.kept hg (own_apart h.own hs (by decide)), h.rb, h.rd, h.build, h.fit⟩
theorem wpList_append_row (w : World) {ops : Array Oper} {rest : List Oper} {o : Oper} {a : Act} {Q : Exit → Act → World → Prop} (hgd : o.guard = none) (s x : Operand)
  (ho : o.op = .call { callee := .builtin .append, args := #[s, x], argTypes := #[23, 23] })
  (base : Nat) (v : Value) (n : Nat) (xs : List (List UInt8)) (hs : a.eval s = v) (hown : w.ownsRow base 9 1 v n (strs xs))
  (A : Option Addr) (m c : Nat) (ys : List (List UInt8)) (hx : a.eval x = .slice A m c) (hr : SRow w A m ys) (hb : (n + m) * 16 ≤ 140737488355328) (hbase : base ≤ w.heap.size)
  (h : ∀ v' w', w'.ownsRow base 9 1 v' (n + m) (strs (xs ++ ys)) → Below base w w' → wpList Tryz.prog ops Q rest (a.put o.dst v') w') : wpList Tryz.prog ops Q (o :: rest) a w := by
 cases A with
 | some ad => exact wpList_append_strs w hgd s x ho base v n xs hs hown (some ad) m c ys hx hr (fun e => by cases e) hb hbase h
 | none =>
  obtain ⟨rfl, rfl⟩ := hr.nil
  obtain ⟨i, hi, _⟩ := info_parts strInfo
  have hrun : (Builtin.append_ #[23, 23] o.type #[v, .slice none 0 c]).run Tryz.prog w = .ok v w := by
   rcases hown.2 with ⟨rfl, rfl⟩ | ⟨g, cap, cur, rfl, _, _, hnc, _⟩
   ·simp [Builtin.append_, run_underlying Tryz.underlying23, sizeOf, typeInfo, hi, Builtin.lenOf, Builtin.firstCells]
   ·simp [Builtin.append_, run_underlying Tryz.underlying23, sizeOf, typeInfo, hi, Builtin.lenOf, Builtin.firstCells, hnc, storeCells]
  refine wpList_plain hgd fun K hK => ?_
  unfold Oper.wp execOp
  simp only [ho, resolve, invoke, builtin, Sem.run_bind, Sem.run_pure, Result.andThen_ok, List.map_toArray, List.map_cons, List.map_nil, hs, hx, hrun]
  exact hK _ _ (h v w (by simpa using hown) (Below.refl _ _))
def CopiedPost (w : World) (r : RCut) (e : Ending) (w' : World) : Prop :=
 ∃ r' : RCut, e = .returned (.agg #[.int .i64 r'.kind, .int .u64 (r'.v.a : Int), .int .u64 (r'.v.b : Int), .int .u64 (r'.v.c : Int), .slice r'.A r'.v.pre.length r'.c, .slice r'.B r'.v.build.length r'.d]) ∧ r'.cut = ⟨r.kind, bare r.v⟩ ∧ OwnC w' w.heap.size r' ∧ Below w.heap.size w w'

theorem copied_any (r : RCut) (w : World) (h : Lies w r) (hn : r.v.pre.length ≤ 1000) :
  Calls Tryz.prog 84 #[.agg #[.int .i64 r.kind, .int .u64 (r.v.a : Int), .int .u64 (r.v.b : Int), .int .u64 (r.v.c : Int), .slice r.A r.v.pre.length r.c, .slice r.B r.v.build.length r.d]] w (CopiedPost w r) := by
 have HBa : Hid (Below w.heap.size w ((w.alloc (.cells #[.int .i64 r.kind, .int .u64 (r.v.a : Int), .int .u64 (r.v.b : Int), .int .u64 (r.v.c : Int), .slice r.A r.v.pre.length r.c, .slice r.B r.v.build.length r.d] 41)).alloc (.cells #[.int .i64 0, .int .u64 0, .int .u64 0, .int .u64 0, .slice none 0 0, .slice none 0 0] 41))) := ((Below.refl _ _).alloc (Nat.le_refl _) _).alloc (by simp) _
 have HL := Lib.hid (h.kept HBa.out)
 have K0 : Hid (At6B ((w.alloc (.cells #[.int .i64 r.kind, .int .u64 (r.v.a : Int), .int .u64 (r.v.b : Int), .int .u64 (r.v.c : Int), .slice r.A r.v.pre.length r.c, .slice r.B r.v.build.length r.d] 41)).alloc (.cells #[.int .i64 0, .int .u64 0, .int .u64 0, .int .u64 0, .slice none 0 0, .slice none 0 0] 41)) w.heap.size (.int .i64 r.kind) (.int .u64 (r.v.a : Int)) (.int .u64 (r.v.b : Int)) (.int .u64 (r.v.c : Int)) (.slice r.A r.v.pre.length r.c) (.slice r.B r.v.build.length r.d)) := (At6B.new w _ _ _ _ _ _ _).kept ((Below.refl _ _).alloc (Nat.le_refl _) _) (by simp)
 have J0 : Hid (At6B ((w.alloc (.cells #[.int .i64 r.kind, .int .u64 (r.v.a : Int), .int .u64 (r.v.b : Int), .int .u64 (r.v.c : Int), .slice r.A r.v.pre.length r.c, .slice r.B r.v.build.length r.d] 41)).alloc (.cells #[.int .i64 0, .int .u64 0, .int .u64 0, .int .u64 0, .slice none 0 0, .slice none 0 0] 41)) (w.heap.size + 1) (.int .i64 0) (.int .u64 0) (.int .u64 0) (.int .u64 0) (.slice none 0 0) (.slice none 0 0)) := by
  have := At6B.new (w.alloc (.cells #[.int .i64 r.kind, .int .u64 (r.v.a : Int), .int .u64 (r.v.b : Int), .int .u64 (r.v.c : Int), .slice r.A r.v.pre.length r.c, .slice r.B r.v.build.length r.d] 41)) 41 (.int .i64 0) (.int .u64 0) (.int .u64 0) (.int .u64 0) (.slice none 0 0) (.slice none 0 0)
  rw [size_alloc] at this; exact this
 clear h
 go_enter Tryz.func84, Tryz.ntmps84
 go_upto_region 1 with (fail)
 generalize ((w.alloc (.cells #[.int .i64 r.kind, .int .u64 (r.v.a : Int), .int .u64 (r.v.b : Int), .int .u64 (r.v.c : Int), .slice r.A r.v.pre.length r.c, .slice r.B r.v.build.length r.d] 41)).alloc (.cells #[.int .i64 0, .int .u64 0, .int .u64 0, .int .u64 0, .slice none 0 0, .slice none 0 0] 41)) = W at HBa HL K0 J0 ⊢
 obtain ⟨hz, _, x0, x1, x2, x3, x4, x5⟩ := K0.out
 have hy := J0.out.1
 go_upto_region 3 with (first
  | (at_builtin; refine wpList_append_row _ rfl _ _ rfl W.heap.size _ 0 [] rfl (World.ownsRow_nil _ _ _ _) r.A r.v.pre.length r.c r.v.pre rfl HL.out.pre (by omega) (Nat.le_refl _) ?_; intro v3 w3 ho hb3; rw [Nat.zero_add, List.nil_append] at ho; obtain ⟨A3, c3, rfl, hc3, hr3⟩ := SRow.of_own ho; have R3 : Hid (OwnC w3 W.heap.size ⟨r.kind, bare r.v, A3, c3, none, 0⟩) := ⟨ho, rfl, rfl, rfl, HL.out.fpre⟩; have K1 := Lib.hid (K0.out.kept hb3 hz); have J1 := Lib.hid (J0.out.kept hb3 hy); have B1 := Lib.hid (HBa.out.trans (hb3.mono HBa.out.size)); have hz3 := hb3.size; clear ho hr3 hb3 x0 x1 x2 x3 x4 x5; obtain ⟨_, hf, x0, x1, x2, x3, x4, x5⟩ := K1.out)
  | fail)
 have K2 := Lib.hid ((K1.out.set4 (.slice A3 r.v.pre.length c3)).set5 (.slice none 0 0))
 have J2 := Lib.hid ((J1.out.beside (b' := w.heap.size) (o := 4) (by omega) (.slice A3 r.v.pre.length c3)).beside (b' := w.heap.size) (o := 5) (by omega) (.slice none 0 0))
 have R4 := Lib.hid ((R3.out.set (b := w.heap.size) (o := 4) hz (.slice A3 r.v.pre.length c3)).set (b := w.heap.size) (o := 5) hz (.slice none 0 0))
 have B2 := Lib.hid ((B1.out.setCell (p := ⟨w.heap.size, 4, none⟩) (Nat.le_refl _) (.slice A3 r.v.pre.length c3)).setCell (p := ⟨w.heap.size, 5, none⟩) (Nat.le_refl _) (.slice none 0 0))
 clear x0 x1 x2 x3 x4 x5 R3 K1 J1 B1 hf
 generalize (w3.setCell ⟨w.heap.size, 4, none⟩ (.slice A3 r.v.pre.length c3)).setCell ⟨w.heap.size, 5, none⟩ (.slice none 0 0) = W4 at K2 J2 R4 B2 ⊢
 obtain ⟨_, _, x0, x1, x2, x3, x4, x5⟩ := K2.out
 obtain ⟨_, hg, y0, y1, y2, y3, y4, y5⟩ := J2.out
 have K3 := Lib.hid (J2.out.set6 (.int .i64 r.kind) (.int .u64 (r.v.a : Int)) (.int .u64 (r.v.b : Int)) (.int .u64 (r.v.c : Int)) (.slice A3 r.v.pre.length c3) (.slice none 0 0))
 have B3 := Lib.hid (below_set6 B2.out (b := w.heap.size + 1) (by omega) (.int .i64 r.kind) (.int .u64 (r.v.a : Int)) (.int .u64 (r.v.b : Int)) (.int .u64 (r.v.c : Int)) (.slice A3 r.v.pre.length c3) (.slice none 0 0))
 have R5 : Hid (OwnC (Span.set6 W4 (w.heap.size + 1) (.int .i64 r.kind) (.int .u64 (r.v.a : Int)) (.int .u64 (r.v.b : Int)) (.int .u64 (r.v.c : Int)) (.slice A3 r.v.pre.length c3) (.slice none 0 0)) W.heap.size ⟨r.kind, bare r.v, A3, c3, none, 0⟩) := R4.out.set6 hy _ _ _ _ _ _
 go_wp2
 change bodyPost _ _ _ _ _ (Span.set6 W4 (w.heap.size + 1) (.int .i64 r.kind) (.int .u64 (r.v.a : Int)) (.int .u64 (r.v.b : Int)) (.int .u64 (r.v.c : Int)) (.slice A3 r.v.pre.length c3) (.slice none 0 0))
 generalize Span.set6 W4 (w.heap.size + 1) (.int .i64 r.kind) (.int .u64 (r.v.a : Int)) (.int .u64 (r.v.b : Int)) (.int .u64 (r.v.c : Int)) (.slice A3 r.v.pre.length c3) (.slice none 0 0) = W5 at K3 B3 R5 ⊢
 obtain ⟨_, _, z0, z1, z2, z3, z4, z5⟩ := K3.out
 exact bodyPost_ret (v := .agg #[.int .i64 r.kind, .int .u64 (r.v.a : Int), .int .u64 (r.v.b : Int), .int .u64 (r.v.c : Int), .slice A3 r.v.pre.length c3, .slice none 0 0]) (by simp [results, Tryz.results84, go_sem, z0, z1, z2, z3, z4, z5]) rfl ⟨⟨r.kind, bare r.v, A3, c3, none, 0⟩, rfl, rfl, R5.out.mono HBa.out.size, B3.out⟩
end Go.Proofs.YtgfbflnhjpbceaaGreatDoor.Span
namespace Go.Proofs.YtgfbflnhjpbceaaGreatDoor.Span
open Go.RowKit

def jumps (J : Nat → Act → World → Prop) (Q : Exit → Act → World → Prop) : Exit → Act → World → Prop
 | .goto l, a, w => J l a w
 | e, a, w => Q e a w
def Less (J0 J1 : Act → World → Prop) (m0 m1 : Act → World → Nat) (m : Nat) (l : Nat) (a : Act) (w : World) : Prop := (l = 0 ∧ J0 a w ∧ m0 a w < m) ∨ (l = 1 ∧ J1 a w ∧ m1 a w < m)
theorem wp_two {P : Program} {a : Act} {w : World} {Q : Exit → Act → World → Prop} {c rest0 rest1 : Code} (J0 J1 : Act → World → Prop) (m0 m1 : Act → World → Nat) (hf0 : findLabel c 0 = some (Code.skip.seq rest0)) (hf1 : findLabel c 1 = some (Code.skip.seq rest1))
  (pass1 : ∀ m a w, J1 a w → m1 a w = m → rest1.wp P (jumps (Less J0 J1 m0 m1 m) Q) a w)
  (pass0 : Hid (∀ m a w, J1 a w → m1 a w ≤ m → rest1.wp P (jumps (Less J0 J1 m0 m1 m) Q) a w) → ∀ m a w, J0 a w → m0 a w = m → rest0.wp P (jumps (Less J0 J1 m0 m1 m) Q) a w)
  (first : Hid (∀ a w, J0 a w → rest0.wp P (jumps (fun l a w => (l = 0 ∧ J0 a w) ∨ (l = 1 ∧ J1 a w)) Q) a w) → c.wp P (jumps (fun l a w => (l = 0 ∧ J0 a w) ∨ (l = 1 ∧ J1 a w)) Q) a w) : (Code.scope c).wp P Q a w := by
 have mono1 : ∀ m a w, J1 a w → m1 a w ≤ m → rest1.wp P (jumps (Less J0 J1 m0 m1 m) Q) a w := fun m a w h hm =>
  wp_mono (pass1 _ a w h rfl) (fun e _ _ hq => by
   cases e <;> first | exact hq | (rcases hq with ⟨h1, h2, h3⟩ | ⟨h1, h2, h3⟩; exact .inl ⟨h1, h2, Nat.lt_of_lt_of_le h3 hm⟩; exact .inr ⟨h1, h2, Nat.lt_of_lt_of_le h3 hm⟩))
 have p0 := pass0 mono1
 have first := first fun a w h => wp_mono (p0 _ a w h rfl) (fun e _ _ hq => by
   cases e <;> first | exact hq | (rcases hq with ⟨h1, h2, h3⟩ | ⟨h1, h2, h3⟩; exact .inl ⟨h1, h2⟩; exact .inr ⟨h1, h2⟩))
 intro b k cs
 have hg0 : gotoIn 0 (.inScope c :: k) = some (.code (Code.skip.seq rest0) :: .inScope c :: k) := by simp [gotoIn, hf0]
 have hg1 : gotoIn 1 (.inScope c :: k) = some (.code (Code.skip.seq rest1) :: .inScope c :: k) := by simp [gotoIn, hf1]
 have key : ∀ n, (∀ a w, m0 a w ≤ n → J0 a w → ∃ e a' w', Q e a' w' ∧ Arrives P (lone (b.at a (.code (Code.skip.seq rest0) :: .inScope c :: k)) cs w) b k cs e a' w') ∧ (∀ a w, m1 a w ≤ n → J1 a w → ∃ e a' w', Q e a' w' ∧ Arrives P (lone (b.at a (.code (Code.skip.seq rest1) :: .inScope c :: k)) cs w) b k cs e a' w') := by
  intro n
  induction n using Nat.strongRecOn with
  | _ n ih =>
   have go : ∀ (rest : Code) (m : Nat) (a : Act) (w : World), m ≤ n → rest.wp P (jumps (Less J0 J1 m0 m1 m) Q) a w → ∃ e a' w', Q e a' w' ∧ Arrives P (lone (b.at a (.code (Code.skip.seq rest) :: .inScope c :: k)) cs w) b k cs e a' w' := by
    intro rest m a w hm hw
    obtain ⟨e, a₁, w₁, hq, harr⟩ := (wp_seq (wp_skip hw) : (Code.skip.seq rest).wp P _ a w) b (.inScope c :: k) cs
    cases e with
    | normal => exact ⟨.normal, a₁, w₁, hq, Steps.trans harr (.one step_inScope)⟩
    | exit id => exact ⟨.exit id, a₁, w₁, hq, fun k' hk => harr k' (by simp [exitTo, hk])⟩
    | goto l' =>
     rcases hq with ⟨rfl, hJ', hlt⟩ | ⟨rfl, hJ', hlt⟩
     ·obtain ⟨e₂, a₂, w₂, hq₂, harr₂⟩ := (ih _ (Nat.lt_of_lt_of_le hlt hm)).1 a₁ w₁ (Nat.le_refl _) hJ'
      exact ⟨e₂, a₂, w₂, hq₂, .of_steps (harr _ hg0) harr₂⟩
     ·obtain ⟨e₂, a₂, w₂, hq₂, harr₂⟩ := (ih _ (Nat.lt_of_lt_of_le hlt hm)).2 a₁ w₁ (Nat.le_refl _) hJ'
      exact ⟨e₂, a₂, w₂, hq₂, .of_steps (harr _ hg1) harr₂⟩
    | ret => exact ⟨_, a₁, w₁, hq, harr⟩
    | panic ch => exact ⟨_, a₁, w₁, hq, harr⟩
    | outgrown => exact ⟨_, a₁, w₁, hq, harr⟩
   exact ⟨fun a w hm hJ => go rest0 _ a w hm (p0 _ a w hJ rfl), fun a w hm hJ => go rest1 _ a w hm (pass1 _ a w hJ rfl)⟩
 obtain ⟨e, a₁, w₁, hq, harr⟩ := first b (.inScope c :: k) cs
 cases e with
 | normal => exact ⟨.normal, a₁, w₁, hq, .head step_scope (Steps.trans harr (.one step_inScope))⟩
 | exit id => exact ⟨.exit id, a₁, w₁, hq, fun k' hk => .head step_scope (harr k' (by simp [exitTo, hk]))⟩
 | goto l' =>
  rcases hq with ⟨rfl, hJ'⟩ | ⟨rfl, hJ'⟩
  ·obtain ⟨e₂, a₂, w₂, hq₂, harr₂⟩ := (key _).1 a₁ w₁ (Nat.le_refl _) hJ'
   exact ⟨e₂, a₂, w₂, hq₂, .of_steps (.head step_scope (harr _ hg0)) harr₂⟩
  ·obtain ⟨e₂, a₂, w₂, hq₂, harr₂⟩ := (key _).2 a₁ w₁ (Nat.le_refl _) hJ'
   exact ⟨e₂, a₂, w₂, hq₂, .of_steps (.head step_scope (harr _ hg1)) harr₂⟩
 | ret => exact ⟨_, a₁, w₁, hq, .of_steps (.one step_scope) harr⟩
 | panic ch => exact ⟨_, a₁, w₁, hq, .of_steps (.one step_scope) harr⟩
 | outgrown => exact ⟨_, a₁, w₁, hq, .of_steps (.one step_scope) harr⟩
end Go.Proofs.YtgfbflnhjpbceaaGreatDoor.Span
