/-
  The small functions of rangeexpr.Text and Good: ofVersion, bracketed, opens, within, ahead. Conditions: as each states.
  rangeexpr.mark: what a right range's text begins with. Conditions: the range's version is right, if it counts; the two tables read as they are written. (Made by wip/gen_rgtell.py.)
  Parts read one by one as long as a further one is there (rangeexpr.several), whatever reads a part and looks for a further one. Conditions: the reader's block holds its bytes (at most 30000000) and a place within them; the table of ops reads as it is written; a part takes a byte at least. (Made by wip/gen_rgsev.py.)
  What rangeexpr.Same's list holds: pairs of slices that read as the same ranges.
  rangeexpr.Same says yes of two ranges that read the same. Conditions: both read as the same range, which has at most 4000000 ranges. (Made by wip/gen_rgsame.py.)
  rangeexpr.fits, good, Good say yes of a right range. Conditions: as each states. (Made by wip/gen_rgtell.py.)
  rangeexpr.fits, good, Good of any range. Conditions: as each states. (Made by wip/gen_nmgood.py.)
  The small functions of norm that make cuts and the set between two of them (cut, end, between). Conditions: as each states. (Made by wip/gen_nmcut.py.)
  The first of a core (prec.First), the end at a place (prec.endAt), caret's and tilde's ends (prec.Caret, prec.Tilde). Condition: the numbers are those of uint64.
  Caret's and tilde's ends (prec.Tilde, prec.Caret): those that the document's words make of the numbers. No condition.
-/
import Derived.Test.YtgfbflnhjpbceaaGreatDoorPartsB5
import Derived.Deep.QuietTactic
import Derived.BigQuiet
import Derived.Deep.CutBlock
import Derived.Deep.DeepCutAuto
import Derived.Deep.RegionHeld3
import Derived.WalkSmall
import Derived.Laws.OwnMore
import Derived.StillTailTactics
import Derived.Lib.SliceRun
namespace Go.Proofs.YtgfbflnhjpbceaaGreatDoor.Range
open Go.RowKit Num Ident Semver

theorem ofVersion_any (k : Int) (w : World) : Calls Tryz.prog 90 #[.int .i64 k] w fun e w' => e = .returned (.bool (ofVersion k)) ∧ w' = w := by
  unfold ofVersion
  go_enter Tryz.func90, Tryz.ntmps90
  by_cases h1 : 1 ≤ k
  · by_cases h2 : k ≤ 8
    · go_wp2; go_ret
      exact ⟨by simp [h1, h2], rfl⟩
    · go_wp2; go_ret
      exact ⟨by simp [h2], rfl⟩
  · go_wp2; go_ret
    exact ⟨by simp; omega, rfl⟩
theorem bracketed_any (o k : Int) (w : World) : Calls Tryz.prog 55 #[.int .i64 o, .int .i64 k] w fun e w' => e = .returned (.bool (bracketed o k)) ∧ w' = w := by
  unfold bracketed
  go_enter Tryz.func55, Tryz.ntmps55
  by_cases h1 : k = 10
  · go_wp2; go_ret
    exact ⟨by simp [h1], rfl⟩
  · by_cases h2 : k = 9
    · by_cases h3 : o = 10
      · go_wp2; go_ret
        exact ⟨by simp [h2, h3], rfl⟩
      · go_wp2; go_ret
        exact ⟨by simp [h2, h3], rfl⟩
    · go_wp2; go_ret
      exact ⟨by simp [h1, h2], rfl⟩
set_option maxRecDepth 100000 in
theorem opens_any (o k : Int) (w : World) : Calls Tryz.prog 78 #[.int .i64 o, .int .i64 k] w fun e w' => e = .returned (.int .i64 (opens o k : Int)) ∧ w' = w := by
  have HO : Hid (opens o k = (if o = 11 then 1 else 0) + (if bracketed o k = true then 1 else 0)) := rfl
  go_enter Tryz.func78, Tryz.ntmps78
  by_cases h1 : o = 11
  · subst h1
    go_wp2_with fail
    refine (bracketed_any 11 k _).mono ?_
    rintro e w' ⟨rfl, rfl⟩
    cases hb : bracketed 11 k with
    | true => go_wp2; go_ret; exact ⟨by rw [HO.out, hb]; rfl, rfl⟩
    | false => go_wp2; go_ret; exact ⟨by rw [HO.out, hb]; rfl, rfl⟩
  · go_wp2_with fail
    refine (bracketed_any o k _).mono ?_
    rintro e w' ⟨rfl, rfl⟩
    cases hb : bracketed o k with
    | true => go_wp2; go_ret; exact ⟨by rw [HO.out, hb, if_neg h1]; rfl, rfl⟩
    | false => go_wp2; go_ret; exact ⟨by rw [HO.out, hb, if_neg h1]; rfl, rfl⟩
set_option maxRecDepth 100000 in
/-- The ones of which a right range's text tells: all of them. -/
theorem within_any (b o : Nat) (x : RV) (w : World) (hc : CellsAt w b o x) (hn : x.n ≤ x.e) (hk : (x.kind = 9 ∨ x.kind = 10) ∨ x.kind = 11 ∧ x.n = 1 ∨ (x.kind ≠ 9 ∧ x.kind ≠ 10 ∧ x.kind ≠ 11) ∧ x.n = 0) :
    Calls Tryz.prog 53 #[.pointer (some ⟨b, o, none⟩)] w fun e w' => (∃ A c, e = .returned (.slice A x.n c) ∧ x.n ≤ c ∧ (0 < x.n → A = x.L)) ∧ Below w.heap.size w w' := by
  obtain ⟨x0, x1, x2, x3, x4, x5, x6⟩ := hc.cells
  obtain ⟨kind, v, A, c, B, d, L, n, e⟩ := x
  simp only at x0 x1 x2 x3 x4 x5 x6 hn hk ⊢
  go_enter Tryz.func53, Tryz.ntmps53
  rcases hk with (rfl | rfl) | ⟨rfl, rfl⟩ | ⟨⟨h1, h2, h3⟩, rfl⟩
  · go_wp2; go_ret
    exact ⟨⟨L, e, rfl, hn, fun _ => rfl⟩, Below.refl _ _⟩
  · go_wp2; go_ret
    exact ⟨⟨L, e, rfl, hn, fun _ => rfl⟩, Below.refl _ _⟩
  · go_upto_region 6 with (fail)
    go_region
    go_wp2; go_ret
    exact ⟨⟨L, e, rfl, hn, fun _ => rfl⟩, (Below.refl w.heap.size w).drew⟩
  · go_wp2; go_ret
    exact ⟨⟨none, 0, rfl, Nat.le_refl _, fun h => absurd h (Nat.lt_irrefl _)⟩, Below.refl _ _⟩
set_option maxRecDepth 100000 in
theorem ahead_any (g o : Nat) (b p : Nat) (outer k : Int) (i : Nat) (w : World) (h0 : w.cell? ⟨g, o, none⟩ = some (.pointer (some ⟨b, p, none⟩))) (h1 : w.cell? ⟨g, o + 1, none⟩ = some (.int .i64 (i : Int))) (h2 : w.cell? ⟨b, p, none⟩ = some (.int .i64 outer)) :
    Calls Tryz.prog 54 #[.pointer (some ⟨g, o, none⟩), .int .i64 k] w fun e w' => e = .returned (.string (mk (aheadR outer k i))) ∧ w' = w := by
  unfold aheadR
  go_enter Tryz.func54, Tryz.ntmps54
  by_cases a1 : outer = 11 ∧ k = 5
  · obtain ⟨rfl, rfl⟩ := a1
    go_wp2; go_ret
    exact ⟨rfl, rfl⟩
  · rw [if_neg a1]
    have a2 : outer = 11 → ¬ k = 5 := fun h h' => a1 ⟨h, h'⟩
    clear a1
    by_cases a3 : i = 0
    · subst a3
      by_cases a4 : outer = 11
      · have a5 := a2 a4
        go_wp2; go_ret
        exact ⟨rfl, rfl⟩
      · go_wp2; go_ret
        exact ⟨rfl, rfl⟩
    · rw [if_neg a3]
      have a3' : ¬ (i : Int) = 0 := by omega
      by_cases a4 : outer = 11
      · have a5 := a2 a4
        subst a4
        go_wp2; go_ret
        exact ⟨rfl, rfl⟩
      · by_cases a6 : outer = 10
        · subst a6
          go_wp2; go_ret
          exact ⟨rfl, rfl⟩
        · rw [if_neg a6]
          go_wp2; go_ret
          exact ⟨rfl, rfl⟩
end Go.Proofs.YtgfbflnhjpbceaaGreatDoor.Range

namespace Go.Proofs.YtgfbflnhjpbceaaGreatDoor.Range
open Go.RowKit Num Ident Semver
theorem good_short {v : Ver} (h : goodV v = true) : shortB v.pre = true ∧ shortB v.build = true := by
  unfold goodV at h
  rw [Bool.and_eq_true, Bool.and_eq_true] at h
  obtain ⟨_, h2, h3⟩ := h
  have b1 := goodFrom_bound _ _ h2
  have b2 := goodFrom_bound _ _ h3
  refine ⟨(shortB_iff _).2 ⟨?_, fun x hx => Nat.le_trans (b1.2 x hx) (by omega)⟩, (shortB_iff _).2 ⟨?_, fun x hx => Nat.le_trans (b2.2 x hx) (by omega)⟩⟩
  · by_cases e : v.pre = []
    · rw [e]; simp
    · have := b1.1 e; omega
  · by_cases e : v.build = []
    · rw [e]; simp
    · have := b2.1 e; omega
theorem mark_of {k : Int} (v : Ver) (h1 : 1 ≤ k) (h2 : k ≤ 8) : markR k v = ops.getD (k - 1).toNat [] ++ vtext v := by
  unfold markR ofVersion
  rw [if_neg (by omega), if_neg (by omega), if_neg (by omega), if_pos (by simp; omega)]
set_option maxRecDepth 100000 in
set_option maxHeartbeats 3200000 in
theorem mark_any (x : RV) (w : World) (hr1 : SRow w x.A x.v.pre.length x.v.pre) (hr2 : SRow w x.B x.v.build.length x.v.build) (hc1 : x.v.pre.length ≤ x.c) (hc2 : x.v.build.length ≤ x.d)
    (hk : x.kind = 0 ∨ (x.kind = 9 ∨ x.kind = 10) ∨ x.kind = 11 ∨ (1 ≤ x.kind ∧ x.kind ≤ 8 ∧ goodV x.v = true)) (hlen : (markR x.kind x.v).length ≤ 100000000) (ht : OpsTab w) (htab : Tab w) :
    Calls Tryz.prog 51 #[x.agg] w fun e w' => e = .returned (.string (mk (markR x.kind x.v))) ∧ Below w.heap.size w w' := by
  have HB : Hid (Below w.heap.size w (w.alloc (.cells #[.int .i64 x.kind, .int .u64 (x.v.a : Int), .int .u64 (x.v.b : Int), .int .u64 (x.v.c : Int), .slice x.A x.v.pre.length x.c, .slice x.B x.v.build.length x.d, .slice x.L x.n x.e] 28))) := (Below.refl _ _).alloc (Nat.le_refl _) _
  have HRA : Hid (RAt (w.alloc (.cells #[.int .i64 x.kind, .int .u64 (x.v.a : Int), .int .u64 (x.v.b : Int), .int .u64 (x.v.c : Int), .slice x.A x.v.pre.length x.c, .slice x.B x.v.build.length x.d, .slice x.L x.n x.e] 28)) w.heap.size x) := RAt.new w _ x
  have HT : Hid (OpsTab (w.alloc (.cells #[.int .i64 x.kind, .int .u64 (x.v.a : Int), .int .u64 (x.v.b : Int), .int .u64 (x.v.c : Int), .slice x.A x.v.pre.length x.c, .slice x.B x.v.build.length x.d, .slice x.L x.n x.e] 28))) := ht.keep (Keep.of_below HB.out)
  have HTX : Hid (goodV x.v = true → ∀ W, Below w.heap.size w W → Calls Tryz.prog 91 #[.agg #[.int .u64 (x.v.a : Int), .int .u64 (x.v.b : Int), .int .u64 (x.v.c : Int), .slice x.A x.v.pre.length x.c, .slice x.B x.v.build.length x.d]] W fun e w' => e = .returned (.string (mk (vtext x.v))) ∧ Below W.heap.size W w') := fun hg W hb => by
    have f := fit_good hg
    have s := good_short hg
    exact vtext_any x.v x.A x.c x.B x.d W f.a f.b f.c (hr1.kept hb) (hr2.kept hb) hc1 hc2 s.1 s.2 (htab.kept hb)
  clear hr1 hr2 hc1 hc2 ht htab
  unfold RV.agg
  go_enter Tryz.func51, Tryz.ntmps51
  go_upto_region 1 with (fail)
  generalize w.alloc (.cells #[.int .i64 x.kind, .int .u64 (x.v.a : Int), .int .u64 (x.v.b : Int), .int .u64 (x.v.c : Int), .slice x.A x.v.pre.length x.c, .slice x.B x.v.build.length x.d, .slice x.L x.n x.e] 28) = W at HB HRA HT ⊢
  obtain ⟨y1, y2, c0, c1, c2, c3, c4, c5, c6⟩ := HRA.out
  rcases hk with hk | (hk | hk) | hk | ⟨h1, h2, h3⟩
  · rw [hk] at c0
    have HM : Hid (markR x.kind x.v = [42]) := by rw [hk]; rfl
    clear hk
    go_wp2; go_ret
    exact ⟨by rw [HM.out]; rfl, HB.out⟩
  · rw [hk] at c0
    have HM : Hid (markR x.kind x.v = []) := by rw [hk]; rfl
    clear hk
    go_wp2; go_ret
    exact ⟨by rw [HM.out]; rfl, HB.out⟩
  · rw [hk] at c0
    have HM : Hid (markR x.kind x.v = []) := by rw [hk]; rfl
    clear hk
    go_wp2; go_ret
    exact ⟨by rw [HM.out]; rfl, HB.out⟩
  · rw [hk] at c0
    have HM : Hid (markR x.kind x.v = [33]) := by rw [hk]; rfl
    clear hk
    go_wp2; go_ret
    exact ⟨by rw [HM.out]; rfl, HB.out⟩
  · have HM := Lib.hid (mark_of x.v h1 h2)
    obtain ⟨k, hk⟩ : ∃ k : Nat, (x.kind - 1).toNat = k := ⟨_, rfl⟩
    have hk8 : k < 8 := by omega
    have hk1 : x.kind = (k : Int) + 1 := by omega
    have hw1 : IntKind.i64.wrap (x.kind - 1) = (k : Int) := by rw [IntKind.wrap_i64] <;> omega
    have n0 : ¬ x.kind = 0 := by omega
    have n9 : ¬ x.kind = 9 := by omega
    have n10 : ¬ x.kind = 10 := by omega
    have n11 : ¬ x.kind = 11 := by omega
    have HOV : Hid (ofVersion x.kind = true) := by unfold Hid ofVersion; simp; omega
    have HTX := Lib.hid (HTX.out h3)
    rw [hk] at HM
    have hk8i : (k : Int) < 8 := by omega
    have hsz : (mk (ops.getD k [])).size + (mk (vtext x.v)).size ≤ 9223372036854775807 := by
      rw [HM.out, List.length_append] at hlen
      rw [mk_size, mk_size]; omega
    clear hlen
    have q9 : (x.kind == 9) = false := by simp [n9]
    have q10 : (x.kind == 10) = false := by simp [n10]
    clear hk h1 h2 h3 hk1
    go_wp2_with fail
    refine (ofVersion_any x.kind W).mono ?_
    rintro e w' ⟨rfl, rfl⟩
    rw [HOV.out]
    go_upto_region 8 with (fail)
    have HBd : Hid (Below w.heap.size w w'.drew) := HB.out.drew
    have HRAd : Hid (RAt w'.drew w.heap.size x) := HRA.out
    have HTd : Hid (OpsTab w'.drew) := HT.out
    clear HB HRA HT
    refine wp_region_held_drew (S := fun w' => RAt w' w.heap.size x ∧ OpsTab w') (by kernel_rfl) ⟨HRAd.out, HTd.out⟩ (fun hHeld => ?_)
    refine wpAnyH_take (i := 0) (oi := { dst := some 24, op := Op.fieldAddr 28 (Operand.tmp 1) 0, type := 0, pos := _, after := _, guard := none }) (v := .pointer (some ⟨w.heap.size, 0, none⟩)) rfl (by kernel_rfl) (by kernel_rfl) (by kernel_rfl) (fun _ _ _ h => h) (Or.inl ⟨by rfl, fun w' hS' => by go_simp⟩) (by assumption) ?_
    simp only [Act.put, List.setIfInBounds_toArray, List.set_cons_zero, List.set_cons_succ]
    refine wpAnyH_take (i := 1) (oi := { dst := some 25, op := Op.load 3 (Operand.tmp 24), type := 3, pos := _, after := _, guard := none }) (v := .int .i64 x.kind) rfl (by kernel_rfl) (by kernel_rfl) (by kernel_rfl) (fun _ _ _ h => h) (Or.inl ⟨by rfl, fun w' hS' => by obtain ⟨y1, y2, c0, c1, c2, c3, c4, c5, c6⟩ := hS'.1; go_simp⟩) (by assumption) ?_
    simp only [Act.put, List.setIfInBounds_toArray, List.set_cons_zero, List.set_cons_succ]
    refine wpAnyH_take (i := 2) (oi := { dst := some 26, op := Op.binOp BinOp.sub 3 (Operand.tmp 25) (Operand.const (Value.int IntKind.i64 1)) 3, type := 3, pos := _, after := _, guard := none }) (v := .int .i64 (k : Int)) rfl (by kernel_rfl) (by kernel_rfl) (by kernel_rfl) (fun _ _ _ h => h) (Or.inl ⟨by rfl, fun w' hS' => by go_simp⟩) (by assumption) ?_
    simp only [Act.put, List.setIfInBounds_toArray, List.set_cons_zero, List.set_cons_succ]
    refine wpAnyH_take (i := 3) (oi := { dst := some 27, op := Op.indexAddr 119 (Operand.global 0) (Operand.tmp 26), type := 0, pos := _, after := _, guard := none }) (v := .pointer (some ⟨0, k, none⟩)) rfl (by kernel_rfl) (by kernel_rfl) (by kernel_rfl) (fun _ _ _ h => h) (Or.inl ⟨by rfl, fun w' hS' => by go_simp⟩) (by assumption) ?_
    simp only [Act.put, List.setIfInBounds_toArray, List.set_cons_zero, List.set_cons_succ]
    refine wpAnyH_take (i := 4) (oi := { dst := some 28, op := Op.load 9 (Operand.tmp 27), type := 9, pos := _, after := _, guard := none }) (v := .string (mk (ops.getD k []))) rfl (by kernel_rfl) (by kernel_rfl) (by kernel_rfl) (fun _ _ _ h => h) (Or.inl ⟨by rfl, fun w' hS' => by have x4 := hS'.2 k hk8; go_simp⟩) (by assumption) ?_
    simp only [Act.put, List.setIfInBounds_toArray, List.set_cons_zero, List.set_cons_succ]
    refine wpAnyH_take (i := 5) (oi := { dst := some 29, op := Op.fieldAddr 28 (Operand.tmp 1) 1, type := 0, pos := _, after := _, guard := none }) (v := .pointer (some ⟨w.heap.size, 1, none⟩)) rfl (by kernel_rfl) (by kernel_rfl) (by kernel_rfl) (fun _ _ _ h => h) (Or.inl ⟨by rfl, fun w' hS' => by go_simp⟩) (by assumption) ?_
    simp only [Act.put, List.setIfInBounds_toArray, List.set_cons_zero, List.set_cons_succ]
    refine wpAnyH_take (i := 6) (oi := { dst := some 30, op := Op.load 25 (Operand.tmp 29), type := 25, pos := _, after := _, guard := none }) (v := .agg #[.int .u64 (x.v.a : Int), .int .u64 (x.v.b : Int), .int .u64 (x.v.c : Int), .slice x.A x.v.pre.length x.c, .slice x.B x.v.build.length x.d]) rfl (by kernel_rfl) (by kernel_rfl) (by kernel_rfl) (fun _ _ _ h => h) (Or.inl ⟨by rfl, fun w' hS' => by obtain ⟨y1, y2, c0, c1, c2, c3, c4, c5, c6⟩ := hS'.1; go_simp⟩) (by assumption) ?_
    simp only [Act.put, List.setIfInBounds_toArray, List.set_cons_zero, List.set_cons_succ]
    refine wpAnyH_ready (rs := [7]) (by kernel_rfl) (by simp) ?_
    refine AllReadyH.cons (o := { dst := some 31, op := Op.call { callee := Callee.value (Operand.func 91), args := #[Operand.tmp 30], argTypes := #[25] }, type := 9, pos := _, after := _, guard := none }) rfl (fun K hK => ?_) AllReadyH.nil
    go_simp
    refine (HTX.out _ HBd.out).mono ?_
    rintro e wm1 ⟨rfl, hb⟩
    have HB2 := Lib.hid (HBd.out.trans (hb.mono HBd.out.size))
    have HRA1 : Hid (RAt wm1 w.heap.size x) := HRAd.out.kept hb HRAd.out.1
    have HT1 : Hid (OpsTab wm1) := HTd.out.keep (Keep.of_below hb)
    clear hb hHeld
    refine hK.out _ _ ⟨HRA1.out, HT1.out⟩ (fun hHeld => ?_)
    clear hK K
    try simp only [Act.put, List.setIfInBounds_toArray, List.set_cons_zero, List.set_cons_succ]
    refine wpAnyH_take (i := 8) (oi := { dst := some 32, op := Op.binOp BinOp.add 9 (Operand.tmp 28) (Operand.tmp 31) 9, type := 9, pos := _, after := _, guard := none }) (v := .string (mk (ops.getD k []) ++ mk (vtext x.v))) rfl (by kernel_rfl) (by kernel_rfl) (by kernel_rfl) (fun _ _ _ h => h) (Or.inl ⟨by rfl, fun w' hS' => by go_simp; exact hsz⟩) (by assumption) ?_
    simp only [Act.put, List.setIfInBounds_toArray, List.set_cons_zero, List.set_cons_succ]
    refine wpAnyH_take (i := 9) (oi := { dst := some 2, op := Op.assign (Operand.tmp 32), type := 9, pos := _, after := _, guard := none }) (v := .string (mk (ops.getD k []) ++ mk (vtext x.v))) rfl (by kernel_rfl) (by kernel_rfl) (by kernel_rfl) (fun _ _ _ h => h) (Or.inl ⟨by rfl, fun w' hS' => by go_simp⟩) (by assumption) ?_
    simp only [Act.put, List.setIfInBounds_toArray, List.set_cons_zero, List.set_cons_succ]
    refine wpAnyH_done (by kernel_rfl) ?_ _
    go_wp2
    go_ret
    exact ⟨by rw [HM.out, ← mk_cat]; rfl, HB2.out⟩
end Go.Proofs.YtgfbflnhjpbceaaGreatDoor.Range

namespace Go.Proofs.YtgfbflnhjpbceaaGreatDoor.Range
open Go.RowKit Num Ident Semver

theorem rgInfo : (Tryz.prog.info? 28).map (fun i => (i.zero, i.size, i.bytes)) = some (some (.agg #[.int .i64 0, .int .u64 0, .int .u64 0, .int .u64 0, .slice none 0 0, .slice none 0 0, .slice none 0 0]), 7, 104) := by kernel_rfl
theorem wpList_append_rg (w : World) {ops : Array Oper} {rest : List Oper} {o : Oper} {a : Act} {Q : Exit → Act → World → Prop} (hgd : o.guard = none) (s x : Operand)
    (ho : o.op = .call { callee := .builtin .append, args := #[s, x], argTypes := #[26, 26] })
    (base : Nat) (v : Value) (n : Nat) (xs : List RV) (hs : a.eval s = v) (hown : w.ownsRow base 28 7 v n (xs.flatMap RV.vals))
    (ad : Addr) (y : RV) (hx : a.eval x = .slice (some ad) 1 1) (hnews : ∀ j u, y.vals[j]? = some u → w.cell? (ad.add j) = some u) (hb : (n + 1) * 104 ≤ 140737488355328) (hbase : base ≤ w.heap.size)
    (h : ∀ v' w', w'.ownsRow base 28 7 v' (n + 1) ((xs ++ [y]).flatMap RV.vals) → w.grownBy w' v.ownBlock → (v'.ownBlock = v.ownBlock ∨ v'.ownBlock = some w.heap.size) → wpList Tryz.prog ops Q rest (a.put o.dst v') w') : wpList Tryz.prog ops Q (o :: rest) a w := by
  obtain ⟨i, hi, hz, hsz, hby⟩ := info_parts rgInfo
  refine wpList_append_own_at w hgd s x 26 ho base 28 i _ 7 104 Tryz.underlying26 hi hz hsz hby rfl (by omega) v n _ hs hown ad 1 1 y.vals hx rfl hnews (rv_one y) (by unfold maxLen; omega) hb hbase (fun v' w' h2 h3 _ h5 => ?_)
  exact h v' w' (by rw [List.flatMap_append]; simpa using h2) h3 h5
/-- The blocks of the elements of a slice of the call's own: made by the call, none of them the slice's. -/
def Elems (B : Nat) (v : Value) (g : Nat) : Prop := B ≤ g ∧ some g ≠ v.ownBlock
/-- A slice of the call's own that reads as a list of ranges. -/
structure OwnRg (w : World) (B : Nat) (v : Value) (l : List Rng) (xs : List RV) : Prop where
  own : w.ownsRow B 28 7 v l.length (xs.flatMap RV.vals)
  len : xs.length = l.length
  lies : ∀ j, j < l.length → Lies w (Elems B v) (l.getD j noRng) (xs.getD j default)
theorem OwnRg.nil (w : World) (B : Nat) : OwnRg w B (.slice none 0 0) [] [] := ⟨World.ownsRow_nil _ _ _ _, rfl, fun _ hj => absurd hj (Nat.not_lt_zero _)⟩
theorem OwnRg.kept {w w' : World} {B : Nat} {v : Value} {l : List Rng} {xs : List RV} (h : OwnRg w B v l xs) (k : Below w.heap.size w w') : OwnRg w' B v l xs := ⟨own_below h.own k, h.len, fun j hj => (h.lies j hj).keep (KeepS.of_below k)⟩
theorem OwnRg.moved {w w' : World} {B b : Nat} {v : Value} {l : List Rng} {xs : List RV} (h : OwnRg w B v l xs) (k : Moved b w w') (hb : b < B) : OwnRg w' B v l xs := by
  refine ⟨h.own.kept (row := some b) ⟨k.os, k.tape, k.output, k.size, fun i hi hne => k.block i hi (fun e => hne (by rw [e]))⟩ ?_, h.len, fun j hj => (h.lies j hj).keep (KeepS.moved k (fun e => by have := e.1; omega))⟩
  cases hv : v.ownBlock with
  | none => exact .inl rfl
  | some g => right; intro e; injection e with e; have := (h.own.lt g hv).1; omega
/-- One more. -/
theorem OwnRg.more {w w' : World} {B : Nat} {v v' : Value} {l : List Rng} {xs : List RV} {r : Rng} {x : RV} {W0 : Nat} (h : OwnRg w B v l xs) (ho : w'.ownsRow B 28 7 v' (l.length + 1) ((xs ++ [x]).flatMap RV.vals)) (hg : w.grownBy w' v.ownBlock) (hat : v'.ownBlock = v.ownBlock ∨ v'.ownBlock = some w.heap.size) (hx : Lies w (From W0) r x) (hW : B ≤ W0) (hv : ∀ g, v.ownBlock = some g → g < W0) : OwnRg w' B v' (l ++ [r]) (xs ++ [x]) := by
  have hel : ∀ (q : Rng) (y : RV), Lies w (Elems B v) q y → Lies w' (Elems B v') q y := fun q y hq => by
    have h1 : Lies w (fun g => Elems B v g ∧ Elems B v' g) q y := hq.mono fun g hS hlt => ⟨hS, hS.1, by
      rcases hat with e | e
      · rw [e]; exact hS.2
      · rw [e]; intro h; injection h with h; omega⟩
    exact (h1.keep (KeepS.grown hg fun g hS => hS.1.2)).mono fun g hS _ => hS.2
  have hnew : Lies w (Elems B v) r x := hx.mono fun g hS _ => ⟨Nat.le_trans hW hS, fun e => by have := hv g e.symm; unfold From at hS; omega⟩
  refine ⟨by rw [List.length_append]; exact ho, by rw [List.length_append, List.length_append, h.len]; rfl, fun k hk => ?_⟩
  rw [List.length_append, List.length_singleton] at hk
  by_cases hlt : k < l.length
  · have e1 : (l ++ [r]).getD k noRng = l.getD k noRng := by simp [List.getD, List.getElem?_append_left hlt]
    have e2 : (xs ++ [x]).getD k default = xs.getD k default := by simp [List.getD, List.getElem?_append_left (show k < xs.length by rw [h.len]; exact hlt)]
    rw [e1, e2]; exact hel _ _ (h.lies k hlt)
  · have ek : k = l.length := by omega
    have e1 : (l ++ [r]).getD k noRng = r := by rw [ek]; simp [List.getD]
    have e2 : (xs ++ [x]).getD k default = x := by rw [ek, ← h.len]; simp [List.getD]
    rw [e1, e2]; exact hel _ _ hnew
theorem OwnRg.row {w : World} {B : Nat} {v : Value} {l : List Rng} {xs : List RV} (h : OwnRg w B v l xs) : ∃ L e, v = .slice L l.length e ∧ l.length ≤ e ∧ (L = none → e = 0) ∧ RgRow w (From B) L l.length l :=
  RgRow.of_own h.own (fun _ hg => hg) h.len rfl fun j hj => (h.lies j hj).mono fun _ hS _ => hS.1
theorem RgPost.alloc {b : Nat} {A : Option Addr} {n c : Nat} {l : List UInt8} {w W : World} {t : Out} {e : Ending} (h : RgPost b A n c l w t e W) (hb : b < w.heap.size) (o : Obj) : RgPost b A n c l w t e (W.alloc o) := by
  obtain ⟨x, q, h1, h2, h3, h4, h5⟩ := h
  exact ⟨x, q, h1, h2.keep (KeepS.alloc _ _), h3, h4.alloc _, h5.alloc hb _⟩
end Go.Proofs.YtgfbflnhjpbceaaGreatDoor.Range

namespace Go.Proofs.YtgfbflnhjpbceaaGreatDoor.Range
open Go.RowKit Num Ident Semver
structure Ent where
  l : List Rng
  A : Option Addr
  e : Nat
  B : Option Addr
  f : Nat
def Ent.vals (x : Ent) : List Value := [.slice x.A x.l.length x.e, .slice x.B x.l.length x.f]
def LtB (B g : Nat) : Prop := g < B
theorem KeepS.lt {w w' : World} {B : Nat} (h : Below B w w') : KeepS (LtB B) w w' := ⟨h.size, fun g o _ hg hc => (h.cell (p := ⟨g, o, none⟩) hg).trans hc⟩
structure EntOk (W : World) (B : Nat) (x : Ent) : Prop where
  a : RgRow W (LtB B) x.A x.l.length x.l
  b : RgRow W (LtB B) x.B x.l.length x.l
  pos : 0 < x.l.length
theorem RgRow.one {w : World} {S : Nat → Prop} {L : Option Addr} {n : Nat} {l : List Rng} (h : RgRow w S L n l) {j : Nat} (hj : j < n) : ∃ b o x, L = some ⟨b, o, none⟩ ∧ S b ∧ CellsAt w b (o + j * 7) x ∧ Lies w S (l.getD j noRng) x := by
  obtain ⟨f, _, h2, h3⟩ := h
  obtain ⟨b, o, e, hb, hc⟩ := h2 (by omega)
  exact ⟨b, o, f j, e, hb, hc j hj, h3 j hj⟩
/-- The two ranges at a place. -/
structure Two (W : World) (B j : Nat) (x : Ent) (r : Rng) (b o b' o' : Nat) (s t : RV) : Prop where
  lt : b < B
  lt' : b' < B
  cs : CellsAt W b (o + j * 7) s
  ct : CellsAt W b' (o' + j * 7) t
  p1 : SRow W s.A s.v.pre.length s.v.pre
  p2 : SRow W s.B s.v.build.length s.v.build
  q1 : SRow W t.A s.v.pre.length s.v.pre
  q2 : SRow W t.B s.v.build.length s.v.build
  fit : FitV s.v
  ra : RgRow W (LtB B) s.L s.n r.subs
  rb : RgRow W (LtB B) t.L s.n r.subs
  kind : t.kind = s.kind
  ver : t.v = s.v
  n : t.n = s.n
  len : s.n = r.subs.length
end Go.Proofs.YtgfbflnhjpbceaaGreatDoor.Range

namespace Go.Proofs.YtgfbflnhjpbceaaGreatDoor.Range
open Go.RowKit Num Ident Semver
theorem arr_lit (t : Array Value) (n : Nat) (h : t.size = n) : t = ((List.range n).map fun i => t.getD i undef).toArray := by
  apply Array.ext
  · simp [h]
  · intro i h1 h2
    simp [Array.getD, h1]
end Go.Proofs.YtgfbflnhjpbceaaGreatDoor.Range

namespace Go.Proofs.YtgfbflnhjpbceaaGreatDoor.Range
open Go.RowKit Num Ident Semver
theorem srow_none (w : World) (A : Option Addr) : SRow w A 0 [] := ⟨rfl, fun h => absurd h (Nat.lt_irrefl _)⟩
theorem wtL_len : ∀ l : List Rng, l.length ≤ wtL l
  | [] => Nat.le_refl _
  | r :: l => by rw [wtL_cons, wt_eq, List.length_cons]; have := wtL_len l; omega
theorem wt_mem {x : Rng} : ∀ {l : List Rng}, x ∈ l → wt x ≤ wtL l
  | [], h => by cases h
  | y :: l, h => by
    rw [wtL_cons]
    rcases List.mem_cons.1 h with rfl | h
    · omega
    · have := wt_mem h; omega
/-- What a right range in memory is, field by field. -/
theorem right_at {w : World} {S : Nat → Prop} {r : Rng} {x : RV} {d : Nat} (hx : Lies w S r x) (hg : goodR r d = true) : d ≤ 64 ∧ goodL r.kind r.subs d = true ∧ r.subs.length = x.n ∧ r.kind = x.kind ∧
    ((1 ≤ x.kind ∧ x.kind ≤ 8 ∧ goodV x.v = true ∧ x.n = 0) ∨ (x.v = noVer ∧ ((x.kind = 0 ∧ x.n = 0) ∨ ((x.kind = 9 ∨ x.kind = 10) ∧ 2 ≤ x.n) ∨ (x.kind = 11 ∧ x.n = 1)))) := by
  have hs := hx.says
  obtain ⟨f, hl, _, _⟩ := hs.subs
  have hk := hs.kind
  have hv := hs.ver
  obtain ⟨kind, v, l⟩ := r
  obtain ⟨h1, h2, h3⟩ := good_cases hg
  simp only [Rng.kind, Rng.ver, Rng.subs] at hl hk hv ⊢
  subst hk; subst hv
  refine ⟨h1, h2, hl, rfl, ?_⟩
  rcases h3 with ⟨a, b, c, rfl⟩ | ⟨a, ⟨b, rfl⟩ | ⟨b, c⟩ | ⟨b, y, rfl⟩⟩
  · exact .inl ⟨a, b, c, hl.symm⟩
  · exact .inr ⟨a, .inl ⟨b, hl.symm⟩⟩
  · exact .inr ⟨a, .inr (.inl ⟨b, hl ▸ c⟩)⟩
  · exact .inr ⟨a, .inr (.inr ⟨b, hl.symm⟩)⟩
end Go.Proofs.YtgfbflnhjpbceaaGreatDoor.Range

namespace Go.Proofs.YtgfbflnhjpbceaaGreatDoor.Range
open Go.RowKit Num Ident Semver
theorem fits_ver {k : Int} {v : Ver} {n : Nat} (h : ofVersion k = true) : fits k v n = (goodV v && decide (n = 0)) := by unfold fits; rw [if_pos h]
theorem fits_un {k : Int} {v : Ver} {n : Nat} (h : ofVersion k = false) (h2 : sameV v noVer = false) : fits k v n = false := by unfold fits; rw [if_neg (by simp [h]), if_pos h2]
theorem fits_zero {k : Int} {v : Ver} {n : Nat} (h : ofVersion k = false) (h2 : sameV v noVer = true) : fits k v n = if k = 0 then decide (n = 0) else if k = 9 ∨ k = 10 then decide (2 ≤ n) else if k = 11 then decide (n = 1) else false := by
  unfold fits; rw [if_neg (by simp [h]), if_neg (by simp [h2])]
set_option maxRecDepth 100000 in
set_option maxHeartbeats 3200000 in
theorem fits_full (x : RV) (w : World) (hr1 : SRow w x.A x.v.pre.length x.v.pre) (hr2 : SRow w x.B x.v.build.length x.v.build) (hf : FitV x.v) :
    Calls Tryz.prog 77 #[x.agg] w fun e w' => e = .returned (.bool (fits x.kind x.v x.n)) ∧ Below w.heap.size w w' := by
  have HB : Hid (Below w.heap.size w (w.alloc (.cells #[.int .i64 x.kind, .int .u64 (x.v.a : Int), .int .u64 (x.v.b : Int), .int .u64 (x.v.c : Int), .slice x.A x.v.pre.length x.c, .slice x.B x.v.build.length x.d, .slice x.L x.n x.e] 28))) := (Below.refl _ _).alloc (Nat.le_refl _) _
  have HRA : Hid (RAt (w.alloc (.cells #[.int .i64 x.kind, .int .u64 (x.v.a : Int), .int .u64 (x.v.b : Int), .int .u64 (x.v.c : Int), .slice x.A x.v.pre.length x.c, .slice x.B x.v.build.length x.d, .slice x.L x.n x.e] 28)) w.heap.size x) := RAt.new w _ x
  have HR1 := Lib.hid (hr1.kept HB.out)
  have HR2 := Lib.hid (hr2.kept HB.out)
  have HF := Lib.hid hf
  clear hr1 hr2 hf
  unfold RV.agg
  generalize hR : fits x.kind x.v x.n = R
  have HR := Lib.hid hR
  clear hR
  go_enter Tryz.func77, Tryz.ntmps77
  go_upto_region 1 with (fail)
  generalize w.alloc (.cells #[.int .i64 x.kind, .int .u64 (x.v.a : Int), .int .u64 (x.v.b : Int), .int .u64 (x.v.c : Int), .slice x.A x.v.pre.length x.c, .slice x.B x.v.build.length x.d, .slice x.L x.n x.e] 28) = W at HB HRA HR1 HR2 ⊢
  obtain ⟨y1, y2, c0, c1, c2, c3, c4, c5, c6⟩ := HRA.out
  cases hov : ofVersion x.kind with
  | true =>
    have HOV := Lib.hid hov
    have HE : Hid (R = (goodV x.v && decide (x.n = 0))) := by unfold Hid; rw [← HR.out]; exact fits_ver hov
    clear hov HR
    go_wp2_with fail
    refine (ofVersion_any x.kind W).mono ?_
    rintro e w' ⟨rfl, rfl⟩
    rw [HOV.out]
    go_wp2_with fail
    refine (vgood_any x.v x.A x.c x.B x.d w' HR1.out HR2.out HF.out.pre HF.out.build HF.out.pres HF.out.builds).mono ?_
    rintro e W2 ⟨rfl, hb⟩
    have HB2 := Lib.hid (HB.out.trans (hb.mono HB.out.size))
    have HRA2 := Lib.hid (HRA.out.kept hb HRA.out.1)
    clear hb y1 y2 c0 c1 c2 c3 c4 c5 c6
    obtain ⟨y1, y2, c0, c1, c2, c3, c4, c5, c6⟩ := HRA2.out
    cases hgv : goodV x.v with
    | true =>
      by_cases hn : x.n = 0
      · obtain rfl : R = true := by rw [HE.out, hgv, hn]; rfl
        rw [hn] at c6
        clear HE hgv hn
        go_wp2; go_ret
        exact ⟨rfl, HB2.out⟩
      · obtain rfl : R = false := by rw [HE.out, decide_eq_false hn, Bool.and_false]
        have q0 : ((x.n : Int) == 0) = false := beq_eq_false_iff_ne.2 (by omega)
        clear hn HE hgv
        go_wp2; go_ret
        exact ⟨rfl, HB2.out⟩
    | false =>
      obtain rfl : R = false := by rw [HE.out, hgv]; rfl
      clear HE hgv
      go_wp2; go_ret
      exact ⟨rfl, HB2.out⟩
  | false =>
    have HOV := Lib.hid hov
    have HE1 : Hid (sameV x.v noVer = false → R = false) := fun h => by rw [← HR.out]; exact fits_un hov h
    have HE2 : Hid (sameV x.v noVer = true → R = if x.kind = 0 then decide (x.n = 0) else if x.kind = 9 ∨ x.kind = 10 then decide (2 ≤ x.n) else if x.kind = 11 then decide (x.n = 1) else false) := fun h => by rw [← HR.out]; exact fits_zero hov h
    clear hov HR
    go_wp2_with fail
    refine (ofVersion_any x.kind W).mono ?_
    rintro e w' ⟨rfl, rfl⟩
    rw [HOV.out]
    go_wp2_with fail
    refine (same_parts x.A x.v.pre.length x.c x.v.pre x.B x.v.build.length x.d x.v.build none 0 0 [] none 0 0 [] x.v.a x.v.b x.v.c 0 0 0 w' HR1.out HR2.out (srow_none _ _) (srow_none _ _) HF.out.pre HF.out.build (Nat.zero_le _) (Nat.zero_le _)).mono ?_
    rintro e W2 ⟨rfl, hb⟩
    have HB2 := Lib.hid (HB.out.trans (hb.mono HB.out.size))
    have HRA2 := Lib.hid (HRA.out.kept hb HRA.out.1)
    clear hb y1 y2 c0 c1 c2 c3 c4 c5 c6
    obtain ⟨y1, y2, c0, c1, c2, c3, c4, c5, c6⟩ := HRA2.out
    have HS : Hid (sameV ⟨x.v.a, x.v.b, x.v.c, x.v.pre, x.v.build⟩ ⟨0, 0, 0, [], []⟩ = sameV x.v noVer) := rfl
    rw [HS.out]
    cases hsv : sameV x.v noVer with
    | false =>
      obtain rfl := HE1.out hsv
      clear hsv HE1 HE2
      go_wp2; go_ret
      exact ⟨rfl, HB2.out⟩
    | true =>
      have hE := HE2.out hsv
      clear hsv HE1 HE2 HOV HS
      by_cases k0 : x.kind = 0
      · rw [if_pos k0] at hE
        rw [k0] at c0
        clear k0
        by_cases hn : x.n = 0
        · obtain rfl : R = true := by rw [hE, decide_eq_true hn]
          rw [hn] at c6
          clear hE hn
          go_wp2; go_ret
          exact ⟨rfl, HB2.out⟩
        · have q0 : ((x.n : Int) == 0) = false := beq_eq_false_iff_ne.2 (by omega)
          obtain rfl : R = false := by rw [hE, decide_eq_false hn]
          clear hn hE
          go_wp2; go_ret
          exact ⟨rfl, HB2.out⟩
      · rw [if_neg k0] at hE
        by_cases k9 : x.kind = 9 ∨ x.kind = 10
        · rw [if_pos k9] at hE
          by_cases hn : 2 ≤ x.n
          · have hn2 : (2 : Int) ≤ (x.n : Int) := by omega
            obtain rfl : R = true := by rw [hE, decide_eq_true hn]
            clear hn k0 hE
            rcases k9 with k9 | k9 <;> rw [k9] at c0 <;> clear k9 <;> go_wp2 <;> go_ret <;> exact ⟨rfl, HB2.out⟩
          · have q2 : decide ((2 : Int) ≤ (x.n : Int)) = false := decide_eq_false (by omega)
            obtain rfl : R = false := by rw [hE, decide_eq_false hn]
            clear hn k0 hE
            rcases k9 with k9 | k9 <;> rw [k9] at c0 <;> clear k9 <;> go_wp2 <;> go_ret <;> exact ⟨rfl, HB2.out⟩
        · rw [if_neg k9] at hE
          by_cases k11 : x.kind = 11
          · rw [if_pos k11] at hE
            rw [k11] at c0
            clear k11 k0 k9
            by_cases hn : x.n = 1
            · obtain rfl : R = true := by rw [hE, decide_eq_true hn]
              rw [hn] at c6
              clear hE hn
              go_wp2; go_ret
              exact ⟨rfl, HB2.out⟩
            · have q1 : ((x.n : Int) == 1) = false := beq_eq_false_iff_ne.2 (by omega)
              obtain rfl : R = false := by rw [hE, decide_eq_false hn]
              clear hn hE
              go_wp2; go_ret
              exact ⟨rfl, HB2.out⟩
          · rw [if_neg k11] at hE
            obtain rfl := hE
            have n9 : ¬ x.kind = 9 := fun h => k9 (.inl h)
            have n10 : ¬ x.kind = 10 := fun h => k9 (.inr h)
            have q9 : (x.kind == 9) = false := by simp [n9]
            have q10 : (x.kind == 10) = false := by simp [n10]
            clear k9
            go_wp2; go_ret
            exact ⟨rfl, HB2.out⟩
theorem goodL_at {o : Int} {l : List Rng} {d : Nat} : goodL o l d = true ↔ ∀ j, j < l.length → goodR (l.getD j noRng) (d + opens o (l.getD j noRng).kind) = true := by
  induction l with
  | nil => exact ⟨fun _ j hj => by simp at hj, fun _ => rfl⟩
  | cons y l ih =>
    rw [goodL_cons, Bool.and_eq_true, ih]
    constructor
    · rintro ⟨h1, h2⟩ j hj
      cases j with
      | zero => exact h1
      | succ j => exact h2 j (by simpa using hj)
    · intro h
      exact ⟨h 0 (by simp), fun j hj => h (j + 1) (by simpa using hj)⟩
theorem goodL_no {o : Int} {l : List Rng} {d j : Nat} (hj : j < l.length) (h : goodR (l.getD j noRng) (d + opens o (l.getD j noRng).kind) = false) : goodL o l d = false := by
  rw [← Bool.not_eq_true, goodL_at]
  intro k
  rw [k j hj] at h; cases h
/-- No row of a range is longer than a length can say. -/
inductive LenOk : Rng → Prop
  | mk (k : Int) (v : Ver) (l : List Rng) (h : l.length ≤ 9223372036854775807) (hl : ∀ y ∈ l, LenOk y) : LenOk (.mk k v l)
theorem LenOk.here {r : Rng} (h : LenOk r) : r.subs.length ≤ 9223372036854775807 := by cases h with | mk k v l h _ => exact h
theorem LenOk.sub {r y : Rng} (h : LenOk r) (hy : y ∈ r.subs) : LenOk y := by cases h with | mk k v l _ hl => exact hl y hy
theorem LenOk.of_wt : ∀ (m : Nat) (r : Rng), wt r ≤ m → m ≤ 9223372036854775807 → LenOk r
  | 0, r, h, _ => by rw [wt_eq] at h; omega
  | m + 1, r, h, hM => by
    obtain ⟨k, v, l⟩ := r
    rw [wt_eq] at h
    have h2 : wtL l ≤ m := by have : wtL (Rng.mk k v l).subs = wtL l := rfl; omega
    exact .mk k v l (by have := wtL_len l; omega) fun y hy => LenOk.of_wt m y (Nat.le_trans (wt_mem hy) h2) (by omega)
theorem opens_two (a b : Int) : opens a b ≤ 2 := by unfold opens; split <;> split <;> omega
set_option maxRecDepth 100000 in
set_option maxHeartbeats 3200000 in
theorem good_full : ∀ (m : Nat) (r : Rng) (x : RV) (B d : Nat) (w : World), wt r ≤ m → LenOk r → Lies w (LtB B) r x → B ≤ w.heap.size → d ≤ 70 →
    Calls Tryz.prog 42 #[x.agg, .int .i64 (d : Int)] w fun e w' => e = .returned (.bool (goodR r d)) ∧ Below w.heap.size w w'
  | 0, r, x, B, d, w, hm, _, hx, hB, hg => by rw [wt_eq] at hm; omega
  | m + 1, r, x, B, d, w, hm, hM, hx, hB, hdd => by
    have IH := Lib.hid (fun r x d w => good_full m r x B d w)
    have hs := hx.says
    obtain ⟨f, hln, _, _⟩ := hs.subs
    have HFits := Lib.hid (fun W (hb : Below w.heap.size w W) => fits_full x W (hs.pre.kept hb) (hs.build.kept hb) hs.fit)
    have HB : Hid (Below w.heap.size w (w.alloc (.cells #[.int .i64 x.kind, .int .u64 (x.v.a : Int), .int .u64 (x.v.b : Int), .int .u64 (x.v.c : Int), .slice x.A x.v.pre.length x.c, .slice x.B x.v.build.length x.d, .slice x.L x.n x.e] 28))) := (Below.refl _ _).alloc (Nat.le_refl _) _
    have HRA : Hid (RAt (w.alloc (.cells #[.int .i64 x.kind, .int .u64 (x.v.a : Int), .int .u64 (x.v.b : Int), .int .u64 (x.v.c : Int), .slice x.A x.v.pre.length x.c, .slice x.B x.v.build.length x.d, .slice x.L x.n x.e] 28)) w.heap.size x) := RAt.new w _ x
    have HL := Lib.hid (hx.keep (KeepS.of_below (S := LtB B) HB.out))
    have HG : Hid (goodR r d = (decide (d ≤ 64) && fits x.kind x.v x.n && goodL x.kind r.subs d)) := by
      have e1 := hs.kind
      have e2 := hs.ver
      rw [← e1, ← e2, ← hln]
      obtain ⟨k, v, l⟩ := r
      exact goodR_eq k v l d
    rw [wt_eq] at hm
    have hxn : x.n ≤ 9223372036854775807 := by rw [← hln]; exact hM.here
    have HLO := Lib.hid hM
    have HLN := Lib.hid hln
    clear hs hx hln hM
    unfold RV.agg
    generalize hR : goodR r d = R
    replace HG : Hid (R = (decide (d ≤ 64) && fits x.kind x.v x.n && goodL x.kind r.subs d)) := hR.symm.trans HG.out
    clear hR
    go_enter Tryz.func42, Tryz.ntmps42
    go_upto_region 1 with (fail)
    generalize w.alloc (.cells #[.int .i64 x.kind, .int .u64 (x.v.a : Int), .int .u64 (x.v.b : Int), .int .u64 (x.v.c : Int), .slice x.A x.v.pre.length x.c, .slice x.B x.v.build.length x.d, .slice x.L x.n x.e] 28) = W at HB HRA HL ⊢
    obtain ⟨y1, y2, c0, c1, c2, c3, c4, c5, c6⟩ := HRA.out
    by_cases hd : ¬ d ≤ 64
    · have hd64 : (64 : Int) < (d : Int) := by omega
      obtain rfl : R = false := by rw [HG.out, decide_eq_false hd, Bool.false_and, Bool.false_and]
      clear hd HG
      go_wp2; go_ret
      exact ⟨rfl, HB.out⟩
    replace hd := Classical.not_not.1 hd
    have hd64 : ¬ (64 : Int) < (d : Int) := by omega
    replace HG : Hid (R = (fits x.kind x.v x.n && goodL x.kind r.subs d)) := by unfold Hid; rw [HG.out, decide_eq_true hd, Bool.true_and]
    go_wp2_with fail
    refine (HFits.out W HB.out).mono ?_
    rintro e W2 ⟨rfl, hb⟩
    have HB2 := Lib.hid (HB.out.trans (hb.mono HB.out.size))
    have HRA2 := Lib.hid (HRA.out.kept hb HRA.out.1)
    have HL2 := Lib.hid (HL.out.keep (KeepS.of_below (S := LtB B) hb))
    have hB2 : B ≤ W2.heap.size := Nat.le_trans hB HB2.out.size
    clear hb y1 y2 c0 c1 c2 c3 c4 c5 c6 HB HRA HL HFits
    obtain ⟨y1, y2, c0, c1, c2, c3, c4, c5, c6⟩ := HRA2.out
    cases hfi : fits x.kind x.v x.n
    · obtain rfl : R = false := by rw [HG.out, hfi]; rfl
      clear HG hfi
      go_wp2; go_ret
      exact ⟨rfl, HB2.out⟩
    replace HG : Hid (R = goodL x.kind r.subs d) := by unfold Hid; rw [HG.out, hfi, Bool.true_and]
    clear hfi
    go_wp2
    go_loopw [4, 6, 17] (fun rv _ iv W' => rv = .bool false ∧ ∃ k : Nat, k ≤ x.n ∧ iv = .int .i64 (k : Int) ∧ Hid (Below W2.heap.size W2 W') ∧ Hid (∀ j, j < k → goodR (r.subs.getD j noRng) (d + opens x.kind (r.subs.getD j noRng).kind) = true)) (fun _ _ iv _ => x.n - (intOf iv).toNat)
    case atStart => exact ⟨rfl, 0, Nat.zero_le _, rfl, Below.refl _ _, fun j hj => absurd hj (Nat.not_lt_zero j)⟩
    case round =>
      obtain ⟨rfl, k, hk, rfl, HB3, HQ⟩ := hrel
      by_cases hlt : k < x.n
      · obtain ⟨b, o, c, hLe, hSb, hcl, hcy⟩ := HL2.out.says.subs.one hlt
        have hll : k < r.subs.length := by rw [HLN.out]; exact hlt
        have hmem : r.subs.getD k noRng ∈ r.subs := by
          rw [List.getD_eq_getElem?_getD, List.getElem?_eq_getElem (by omega)]; exact List.getElem_mem _
        have hwt : wt (r.subs.getD k noRng) ≤ m := by have := wt_mem hmem; omega
        have ho2 := opens_two x.kind c.kind
        have hoi : IntKind.i64.wrap ((d : Int) + (opens x.kind c.kind : Int)) = ((d + opens x.kind c.kind : Nat) : Int) := by rw [IntKind.wrap_i64] <;> omega
        have hqe : goodR (r.subs.getD k noRng) (d + opens x.kind c.kind) = goodR (r.subs.getD k noRng) (d + opens x.kind (r.subs.getD k noRng).kind) := by rw [hcy.says.kind]
        have hlo := HLO.out.sub hmem
        obtain ⟨q, hq⟩ : ∃ q, q = r.subs.getD k noRng := ⟨_, rfl⟩
        rw [← hq] at hcy hwt hlo
        have hqe : goodR q (d + opens x.kind c.kind) = goodR (r.subs.getD k noRng) (d + opens x.kind (r.subs.getD k noRng).kind) := by rw [hq]; exact hqe
        clear hq
        have hcw := (hcl.keep (KeepS.of_below (S := LtB B) HB3.out) hSb).cells
        obtain ⟨e0, e1, e2, e3, e4, e5, e6⟩ := hcw
        have HBA : Hid (Below W2.heap.size W2 ((wr.alloc (.cells #[.int .i64 c.kind, .int .u64 (c.v.a : Int), .int .u64 (c.v.b : Int), .int .u64 (c.v.c : Int), .slice c.A c.v.pre.length c.c, .slice c.B c.v.build.length c.d, .slice c.L c.n c.e] 28)).drew)) := (HB3.out.alloc HB3.out.size _).drew
        have HXd : Hid (RAt ((wr.alloc (.cells #[.int .i64 c.kind, .int .u64 (c.v.a : Int), .int .u64 (c.v.b : Int), .int .u64 (c.v.c : Int), .slice c.A c.v.pre.length c.c, .slice c.B c.v.build.length c.d, .slice c.L c.n c.e] 28)).drew) w.heap.size x) := HRA2.out.kept HBA.out HRA2.out.1
        have HCd : Hid (RAt ((wr.alloc (.cells #[.int .i64 c.kind, .int .u64 (c.v.a : Int), .int .u64 (c.v.b : Int), .int .u64 (c.v.c : Int), .slice c.A c.v.pre.length c.c, .slice c.B c.v.build.length c.d, .slice c.L c.n c.e] 28)).drew) wr.heap.size c) := by have h := RAt.new wr 28 c; exact h
        have HLc : Hid (Lies ((wr.alloc (.cells #[.int .i64 c.kind, .int .u64 (c.v.a : Int), .int .u64 (c.v.b : Int), .int .u64 (c.v.c : Int), .slice c.A c.v.pre.length c.c, .slice c.B c.v.build.length c.d, .slice c.L c.n c.e] 28)).drew) (LtB B) q c) := hcy.keep (KeepS.of_below (S := LtB B) HBA.out)
        have hBA : B ≤ ((wr.alloc (.cells #[.int .i64 c.kind, .int .u64 (c.v.a : Int), .int .u64 (c.v.b : Int), .int .u64 (c.v.c : Int), .slice c.A c.v.pre.length c.c, .slice c.B c.v.build.length c.d, .slice c.L c.n c.e] 28)).drew).heap.size := Nat.le_trans hB2 HBA.out.size
        have HQE := Lib.hid hqe
        rw [hLe]
        clear hcl hcy hmem hqe
        go_upto_region 6 with (fail)
        clear e0 e1 e2 e3 e4 e5 e6 c0 c1 c2 c3 c4 c5 c6
        have hqe := HQE.out
        refine wp_region_held_drew (S := fun w' => RAt w' w.heap.size x ∧ RAt w' wr.heap.size c) (by kernel_rfl) ⟨HXd.out, HCd.out⟩ (fun hHeld => ?_)
        refine wpAnyH_take (i := 0) (oi := { dst := some 21, op := Op.load 28 (Operand.tmp 6), type := 28, pos := _, after := _, guard := none }) (v := .agg #[.int .i64 c.kind, .int .u64 (c.v.a : Int), .int .u64 (c.v.b : Int), .int .u64 (c.v.c : Int), .slice c.A c.v.pre.length c.c, .slice c.B c.v.build.length c.d, .slice c.L c.n c.e]) rfl (by kernel_rfl) (by kernel_rfl) (by kernel_rfl) (fun _ _ _ h => h) (Or.inl ⟨by rfl, fun w' hS' => by obtain ⟨y1, y2, c0, c1, c2, c3, c4, c5, c6⟩ := hS'.2; go_simp⟩) (by assumption) ?_
        simp only [Act.put, List.setIfInBounds_toArray, List.set_cons_zero, List.set_cons_succ]
        refine wpAnyH_take (i := 1) (oi := { dst := some 22, op := Op.move (Operand.tmp 1), type := 3, pos := _, after := _, guard := none }) (v := .int .i64 (d : Int)) rfl (by kernel_rfl) (by kernel_rfl) (by kernel_rfl) (fun _ _ _ h => h) (Or.inl ⟨by rfl, fun w' hS' => by go_simp⟩) (by assumption) ?_
        simp only [Act.put, List.setIfInBounds_toArray, List.set_cons_zero, List.set_cons_succ]
        refine wpAnyH_take (i := 2) (oi := { dst := some 23, op := Op.fieldAddr 28 (Operand.tmp 2) 0, type := 0, pos := _, after := _, guard := none }) (v := .pointer (some ⟨w.heap.size, 0, none⟩)) rfl (by kernel_rfl) (by kernel_rfl) (by kernel_rfl) (fun _ _ _ h => h) (Or.inl ⟨by rfl, fun w' hS' => by go_simp⟩) (by assumption) ?_
        simp only [Act.put, List.setIfInBounds_toArray, List.set_cons_zero, List.set_cons_succ]
        refine wpAnyH_take (i := 3) (oi := { dst := some 24, op := Op.load 3 (Operand.tmp 23), type := 3, pos := _, after := _, guard := none }) (v := .int .i64 x.kind) rfl (by kernel_rfl) (by kernel_rfl) (by kernel_rfl) (fun _ _ _ h => h) (Or.inl ⟨by rfl, fun w' hS' => by obtain ⟨y1, y2, c0, c1, c2, c3, c4, c5, c6⟩ := hS'.1; go_simp⟩) (by assumption) ?_
        simp only [Act.put, List.setIfInBounds_toArray, List.set_cons_zero, List.set_cons_succ]
        refine wpAnyH_take (i := 4) (oi := { dst := some 25, op := Op.fieldAddr 28 (Operand.tmp 6) 0, type := 0, pos := _, after := _, guard := none }) (v := .pointer (some ⟨wr.heap.size, 0, none⟩)) rfl (by kernel_rfl) (by kernel_rfl) (by kernel_rfl) (fun _ _ _ h => h) (Or.inl ⟨by rfl, fun w' hS' => by go_simp⟩) (by assumption) ?_
        simp only [Act.put, List.setIfInBounds_toArray, List.set_cons_zero, List.set_cons_succ]
        refine wpAnyH_take (i := 5) (oi := { dst := some 26, op := Op.load 3 (Operand.tmp 25), type := 3, pos := _, after := _, guard := none }) (v := .int .i64 c.kind) rfl (by kernel_rfl) (by kernel_rfl) (by kernel_rfl) (fun _ _ _ h => h) (Or.inl ⟨by rfl, fun w' hS' => by obtain ⟨y1, y2, c0, c1, c2, c3, c4, c5, c6⟩ := hS'.2; go_simp⟩) (by assumption) ?_
        simp only [Act.put, List.setIfInBounds_toArray, List.set_cons_zero, List.set_cons_succ]
        refine wpAnyH_ready (rs := [6]) (by kernel_rfl) (by simp) ?_
        refine AllReadyH.cons (o := { dst := some 27, op := Op.call { callee := Callee.value (Operand.func 78), args := #[Operand.tmp 24, Operand.tmp 26], argTypes := #[3, 3] }, type := 3, pos := _, after := _, guard := none }) rfl (fun K hK => ?_) AllReadyH.nil
        go_simp
        refine (opens_any x.kind c.kind _).mono ?_
        rintro e wg1 ⟨rfl, rfl⟩
        have hb := True.intro
        clear hb hHeld
        refine hK.out _ _ ⟨HXd.out, HCd.out⟩ (fun hHeld => ?_)
        clear hK K
        try simp only [Act.put, List.setIfInBounds_toArray, List.set_cons_zero, List.set_cons_succ]
        refine wpAnyH_take (i := 7) (oi := { dst := some 28, op := Op.binOp BinOp.add 3 (Operand.tmp 22) (Operand.tmp 27) 3, type := 3, pos := _, after := _, guard := none }) (v := .int .i64 ((d + opens x.kind c.kind : Nat) : Int)) rfl (by kernel_rfl) (by kernel_rfl) (by kernel_rfl) (fun _ _ _ h => h) (Or.inl ⟨by rfl, fun w' hS' => by go_simp⟩) (by assumption) ?_
        simp only [Act.put, List.setIfInBounds_toArray, List.set_cons_zero, List.set_cons_succ]
        refine wpAnyH_ready (rs := [8]) (by kernel_rfl) (by simp) ?_
        refine AllReadyH.cons (o := { dst := some 29, op := Op.call { callee := Callee.value (Operand.func 42), args := #[Operand.tmp 21, Operand.tmp 28], argTypes := #[28, 3] }, type := 4, pos := _, after := _, guard := none }) rfl (fun K hK => ?_) AllReadyH.nil
        go_simp
        refine (IH.out q c (d + opens x.kind c.kind) _ hwt hlo HLc.out hBA (by omega)).mono ?_
        rintro e wg2 ⟨rfl, hb⟩
        have hbk := hb
        have HB5 := Lib.hid (HBA.out.trans (hb.mono HBA.out.size))
        clear hb hHeld
        refine hK.out _ _ ⟨HXd.out.kept hbk HXd.out.1, HCd.out.kept hbk HCd.out.1⟩ (fun hHeld => ?_)
        clear hK K
        try simp only [Act.put, List.setIfInBounds_toArray, List.set_cons_zero, List.set_cons_succ]
        refine wpAnyH_take (i := 9) (oi := { dst := some 30, op := Op.unOp UnOp.not 4 (Operand.tmp 29), type := 4, pos := _, after := _, guard := none }) (v := .bool (!goodR q (d + opens x.kind c.kind))) rfl (by kernel_rfl) (by kernel_rfl) (by kernel_rfl) (fun _ _ _ h => h) (Or.inl ⟨by rfl, fun w' hS' => by go_simp⟩) (by assumption) ?_
        simp only [Act.put, List.setIfInBounds_toArray, List.set_cons_zero, List.set_cons_succ]
        refine wpAnyH_done (by kernel_rfl) ?_ _
        cases hqb : goodR q (d + opens x.kind c.kind)
        · obtain rfl : R = false := HG.out.trans (goodL_no (by omega) (hqe.symm.trans hqb))
          clear HQ HG
          go_wp2
          go_ret
          exact ⟨rfl, HB2.out.trans (HB5.out.mono HB2.out.size)⟩
        · go_wp2
          exact ⟨⟨rfl, k + 1, by omega, by go_num, HB5.out, fun j hj => by
            by_cases hjk : j = k
            · subst hjk; exact hqe.symm.trans hqb
            · exact HQ.out j (by omega)⟩, by simp [intOf]; omega⟩

      · obtain rfl : k = x.n := by omega
        clear c0 c1 c2 c3 c4 c5 c6
        have HA := Lib.hid (goodL_at.2 fun j hj => HQ.out j (by rw [← HLN.out]; exact hj))
        obtain rfl : R = true := HG.out.trans HA.out
        clear HG
        go_wp2
        go_ret
        exact ⟨rfl, HB2.out.trans (HB3.out.mono HB2.out.size)⟩
set_option maxRecDepth 100000 in
set_option maxHeartbeats 3200000 in
theorem goodIs_any (r : Rng) (x : RV) (B : Nat) (w : World) (hm : LenOk r) (hx : Lies w (LtB B) r x) (hB : B ≤ w.heap.size) :
    Calls Tryz.prog 21 #[x.agg] w fun e w' => e = .returned (.bool (goodR r 0)) ∧ Below w.heap.size w w' := by
  have HB : Hid (Below w.heap.size w (w.alloc (.cells #[.int .i64 x.kind, .int .u64 (x.v.a : Int), .int .u64 (x.v.b : Int), .int .u64 (x.v.c : Int), .slice x.A x.v.pre.length x.c, .slice x.B x.v.build.length x.d, .slice x.L x.n x.e] 28))) := (Below.refl _ _).alloc (Nat.le_refl _) _
  have HRA : Hid (RAt (w.alloc (.cells #[.int .i64 x.kind, .int .u64 (x.v.a : Int), .int .u64 (x.v.b : Int), .int .u64 (x.v.c : Int), .slice x.A x.v.pre.length x.c, .slice x.B x.v.build.length x.d, .slice x.L x.n x.e] 28)) w.heap.size x) := RAt.new w _ x
  have HL := Lib.hid (hx.keep (KeepS.of_below (S := LtB B) HB.out))
  have HG := Lib.hid (fun W h1 h2 => good_full (wt r) r x B 0 W (Nat.le_refl _) hm h1 h2 (by omega))
  have hB2 : B ≤ (w.alloc (.cells #[.int .i64 x.kind, .int .u64 (x.v.a : Int), .int .u64 (x.v.b : Int), .int .u64 (x.v.c : Int), .slice x.A x.v.pre.length x.c, .slice x.B x.v.build.length x.d, .slice x.L x.n x.e] 28)).heap.size := Nat.le_trans hB HB.out.size
  clear hx
  unfold RV.agg
  go_enter Tryz.func21, Tryz.ntmps21
  go_upto_region 1 with (fail)
  generalize w.alloc (.cells #[.int .i64 x.kind, .int .u64 (x.v.a : Int), .int .u64 (x.v.b : Int), .int .u64 (x.v.c : Int), .slice x.A x.v.pre.length x.c, .slice x.B x.v.build.length x.d, .slice x.L x.n x.e] 28) = W at HB HRA HL hB2 ⊢
  obtain ⟨y1, y2, c0, c1, c2, c3, c4, c5, c6⟩ := HRA.out
  go_wp2_with fail
  refine (HG.out W HL.out hB2).mono ?_
  rintro e W2 ⟨rfl, hb⟩
  have HB2 := Lib.hid (HB.out.trans (hb.mono HB.out.size))
  clear hb
  go_wp2
  go_ret
  exact ⟨rfl, HB2.out⟩
end Go.Proofs.YtgfbflnhjpbceaaGreatDoor.Range

namespace Go.Proofs.YtgfbflnhjpbceaaGreatDoor.Nrm
open Go.RowKit Num Ident Semver Prec Span
set_option maxRecDepth 100000 in
set_option maxHeartbeats 800000 in
theorem ncut_any (k : Int) (v : Ver) (A : Option Addr) (c : Nat) (B : Option Addr) (d : Nat) (w : World) :
    Calls Tryz.prog 96 #[.int .i64 k, .agg #[.int .u64 (v.a : Int), .int .u64 (v.b : Int), .int .u64 (v.c : Int), .slice A v.pre.length c, .slice B v.build.length d]] w fun e w' => e = .returned (.agg #[.int .i64 k, .int .u64 (v.a : Int), .int .u64 (v.b : Int), .int .u64 (v.c : Int), .slice A v.pre.length c, .slice none 0 0]) ∧ Below w.heap.size w w' := by
  go_enter Tryz.func96, Tryz.ntmps96
  go_wp2
  refine bodyPost_ret (v := .agg #[.int .i64 k, .int .u64 (v.a : Int), .int .u64 (v.b : Int), .int .u64 (v.c : Int), .slice A v.pre.length c, .slice none 0 0]) (by simp [results, Tryz.results96, go_sem]) rfl ?_
  exact ⟨rfl, ((Below.refl _ _).alloc (Nat.le_refl _) _).alloc (by simp) _⟩
set_option maxRecDepth 100000 in
set_option maxHeartbeats 800000 in
theorem nend_no (v : Ver) (A : Option Addr) (c : Nat) (B : Option Addr) (d : Nat) (w : World) :
    Calls Tryz.prog 98 #[.agg #[.int .u64 (v.a : Int), .int .u64 (v.b : Int), .int .u64 (v.c : Int), .slice A v.pre.length c, .slice B v.build.length d], .bool false] w fun e w' => e = .returned (.agg #[.int .i64 3, .int .u64 0, .int .u64 0, .int .u64 0, .slice none 0 0, .slice none 0 0]) ∧ Below w.heap.size w w' := by
  go_enter Tryz.func98, Tryz.ntmps98
  go_wp2
  refine bodyPost_ret (v := .agg #[.int .i64 3, .int .u64 0, .int .u64 0, .int .u64 0, .slice none 0 0, .slice none 0 0]) (by simp [results, Tryz.results98, go_sem]) rfl ?_
  exact ⟨rfl, ((Below.refl _ _).alloc (Nat.le_refl _) _).alloc (by simp) _⟩
set_option maxRecDepth 100000 in
set_option maxHeartbeats 1600000 in
theorem nend_yes (v : Ver) (A : Option Addr) (c : Nat) (B : Option Addr) (d : Nat) (w : World) :
    Calls Tryz.prog 98 #[.agg #[.int .u64 (v.a : Int), .int .u64 (v.b : Int), .int .u64 (v.c : Int), .slice A v.pre.length c, .slice B v.build.length d], .bool true] w fun e w' => e = .returned (.agg #[.int .i64 1, .int .u64 (v.a : Int), .int .u64 (v.b : Int), .int .u64 (v.c : Int), .slice A v.pre.length c, .slice none 0 0]) ∧ Below w.heap.size w w' := by
  have HB0 : Hid (Below w.heap.size w ((w.alloc (.cells #[.int .u64 (v.a : Int), .int .u64 (v.b : Int), .int .u64 (v.c : Int), .slice A v.pre.length c, .slice B v.build.length d] 25)).alloc (.cells #[.int .i64 0, .int .u64 0, .int .u64 0, .int .u64 0, .slice none 0 0, .slice none 0 0] 41))) := ((Below.refl _ _).alloc (Nat.le_refl _) _).alloc (by simp) _
  have J0 : Hid (At6B ((w.alloc (.cells #[.int .u64 (v.a : Int), .int .u64 (v.b : Int), .int .u64 (v.c : Int), .slice A v.pre.length c, .slice B v.build.length d] 25)).alloc (.cells #[.int .i64 0, .int .u64 0, .int .u64 0, .int .u64 0, .slice none 0 0, .slice none 0 0] 41)) (w.heap.size + 1) (.int .i64 0) (.int .u64 0) (.int .u64 0) (.int .u64 0) (.slice none 0 0) (.slice none 0 0)) := by
    have := At6B.new (w.alloc (.cells #[.int .u64 (v.a : Int), .int .u64 (v.b : Int), .int .u64 (v.c : Int), .slice A v.pre.length c, .slice B v.build.length d] 25)) 41 (.int .i64 0) (.int .u64 0) (.int .u64 0) (.int .u64 0) (.slice none 0 0) (.slice none 0 0)
    rw [size_alloc] at this; exact this
  go_enter Tryz.func98, Tryz.ntmps98
  go_wp2_with fail
  generalize ((w.alloc (.cells #[.int .u64 (v.a : Int), .int .u64 (v.b : Int), .int .u64 (v.c : Int), .slice A v.pre.length c, .slice B v.build.length d] 25)).alloc (.cells #[.int .i64 0, .int .u64 0, .int .u64 0, .int .u64 0, .slice none 0 0, .slice none 0 0] 41)) = W at HB0 J0 ⊢
  refine (ncut_any 1 v A c B d W).mono ?_
  rintro e w1 ⟨rfl, hb⟩
  have B1 := Lib.hid (HB0.out.trans (hb.mono HB0.out.size))
  have J1 := Lib.hid (J0.out.kept hb J0.out.1)
  clear hb J0 HB0
  have K3 := Lib.hid (J1.out.set6 (.int .i64 1) (.int .u64 (v.a : Int)) (.int .u64 (v.b : Int)) (.int .u64 (v.c : Int)) (.slice A v.pre.length c) (.slice none 0 0))
  have B3 := Lib.hid (below_set6 B1.out (b := w.heap.size + 1) (by omega) (.int .i64 1) (.int .u64 (v.a : Int)) (.int .u64 (v.b : Int)) (.int .u64 (v.c : Int)) (.slice A v.pre.length c) (.slice none 0 0))
  obtain ⟨z1, z2, y0, y1, y2, y3, y4, y5⟩ := J1.out
  go_wp2
  change bodyPost _ _ _ _ _ (Span.set6 w1 (w.heap.size + 1) (.int .i64 1) (.int .u64 (v.a : Int)) (.int .u64 (v.b : Int)) (.int .u64 (v.c : Int)) (.slice A v.pre.length c) (.slice none 0 0))
  generalize Span.set6 w1 (w.heap.size + 1) (.int .i64 1) (.int .u64 (v.a : Int)) (.int .u64 (v.b : Int)) (.int .u64 (v.c : Int)) (.slice A v.pre.length c) (.slice none 0 0) = W5 at K3 B3 ⊢
  clear z1 z2 y0 y1 y2 y3 y4 y5
  obtain ⟨z1, z2, y0, y1, y2, y3, y4, y5⟩ := K3.out
  exact bodyPost_ret (v := .agg #[.int .i64 1, .int .u64 (v.a : Int), .int .u64 (v.b : Int), .int .u64 (v.c : Int), .slice A v.pre.length c, .slice none 0 0]) (by simp [results, Tryz.results98, go_sem, y0, y1, y2, y3, y4, y5]) rfl ⟨rfl, B3.out⟩
set_option maxRecDepth 100000 in
set_option maxHeartbeats 1600000 in
theorem between_any (x y : RCut) (w : World) (hx : Span.Lies w x) (hy : Span.Lies w y) :
    Calls Tryz.prog 97 #[.agg #[.int .i64 x.kind, .int .u64 (x.v.a : Int), .int .u64 (x.v.b : Int), .int .u64 (x.v.c : Int), .slice x.A x.v.pre.length x.c, .slice x.B x.v.build.length x.d], .agg #[.int .i64 y.kind, .int .u64 (y.v.a : Int), .int .u64 (y.v.b : Int), .int .u64 (y.v.c : Int), .slice y.A y.v.pre.length y.c, .slice y.B y.v.build.length y.d]] w (SetIn w 1 (NormalOf [⟨x.cut, y.cut⟩])) := by
  have HB0 : Hid (Below w.heap.size w ((w.alloc (.cells #[.int .i64 x.kind, .int .u64 (x.v.a : Int), .int .u64 (x.v.b : Int), .int .u64 (x.v.c : Int), .slice x.A x.v.pre.length x.c, .slice x.B x.v.build.length x.d] 41)).alloc (.cells #[.int .i64 y.kind, .int .u64 (y.v.a : Int), .int .u64 (y.v.b : Int), .int .u64 (y.v.c : Int), .slice y.A y.v.pre.length y.c, .slice y.B y.v.build.length y.d] 41))) := ((Below.refl _ _).alloc (Nat.le_refl _) _).alloc (by simp) _
  have HS0 : Hid (LiesS ((w.alloc (.cells #[.int .i64 x.kind, .int .u64 (x.v.a : Int), .int .u64 (x.v.b : Int), .int .u64 (x.v.c : Int), .slice x.A x.v.pre.length x.c, .slice x.B x.v.build.length x.d] 41)).alloc (.cells #[.int .i64 y.kind, .int .u64 (y.v.a : Int), .int .u64 (y.v.b : Int), .int .u64 (y.v.c : Int), .slice y.A y.v.pre.length y.c, .slice y.B y.v.build.length y.d] 41)) ⟨x, y⟩) := ⟨hx.kept HB0.out, hy.kept HB0.out⟩
  clear hx hy
  go_enter Tryz.func97, Tryz.ntmps97
  go_upto_region 1 with (fail)
  have X0 := At6B.new w 41 (.int .i64 x.kind) (.int .u64 (x.v.a : Int)) (.int .u64 (x.v.b : Int)) (.int .u64 (x.v.c : Int)) (.slice x.A x.v.pre.length x.c) (.slice x.B x.v.build.length x.d)
  have X1 : Hid (At6B ((w.alloc (.cells #[.int .i64 x.kind, .int .u64 (x.v.a : Int), .int .u64 (x.v.b : Int), .int .u64 (x.v.c : Int), .slice x.A x.v.pre.length x.c, .slice x.B x.v.build.length x.d] 41)).alloc (.cells #[.int .i64 y.kind, .int .u64 (y.v.a : Int), .int .u64 (y.v.b : Int), .int .u64 (y.v.c : Int), .slice y.A y.v.pre.length y.c, .slice y.B y.v.build.length y.d] 41)) w.heap.size (.int .i64 x.kind) (.int .u64 (x.v.a : Int)) (.int .u64 (x.v.b : Int)) (.int .u64 (x.v.c : Int)) (.slice x.A x.v.pre.length x.c) (.slice x.B x.v.build.length x.d)) := X0.kept ((Below.refl _ _).alloc (Nat.le_refl _) _) X0.1
  have Y1 : Hid (At6B ((w.alloc (.cells #[.int .i64 x.kind, .int .u64 (x.v.a : Int), .int .u64 (x.v.b : Int), .int .u64 (x.v.c : Int), .slice x.A x.v.pre.length x.c, .slice x.B x.v.build.length x.d] 41)).alloc (.cells #[.int .i64 y.kind, .int .u64 (y.v.a : Int), .int .u64 (y.v.b : Int), .int .u64 (y.v.c : Int), .slice y.A y.v.pre.length y.c, .slice y.B y.v.build.length y.d] 41)) (w.heap.size + 1) (.int .i64 y.kind) (.int .u64 (y.v.a : Int)) (.int .u64 (y.v.b : Int)) (.int .u64 (y.v.c : Int)) (.slice y.A y.v.pre.length y.c) (.slice y.B y.v.build.length y.d)) := by
    have := At6B.new (w.alloc (.cells #[.int .i64 x.kind, .int .u64 (x.v.a : Int), .int .u64 (x.v.b : Int), .int .u64 (x.v.c : Int), .slice x.A x.v.pre.length x.c, .slice x.B x.v.build.length x.d] 41)) 41 (.int .i64 y.kind) (.int .u64 (y.v.a : Int)) (.int .u64 (y.v.b : Int)) (.int .u64 (y.v.c : Int)) (.slice y.A y.v.pre.length y.c) (.slice y.B y.v.build.length y.d)
    rw [size_alloc] at this; exact this
  clear X0
  generalize ((w.alloc (.cells #[.int .i64 x.kind, .int .u64 (x.v.a : Int), .int .u64 (x.v.b : Int), .int .u64 (x.v.c : Int), .slice x.A x.v.pre.length x.c, .slice x.B x.v.build.length x.d] 41)).alloc (.cells #[.int .i64 y.kind, .int .u64 (y.v.a : Int), .int .u64 (y.v.b : Int), .int .u64 (y.v.c : Int), .slice y.A y.v.pre.length y.c, .slice y.B y.v.build.length y.d] 41)) = W at HB0 HS0 X1 Y1 ⊢
  obtain ⟨a1, a2, x0, x1, x2, x3, x4, x5⟩ := X1.out
  obtain ⟨b1, b2, y0, y1, y2, y3, y4, y5⟩ := Y1.out
  have R1 := Lib.hid (SpRow.one W ⟨x, y⟩ HS0.out)
  have B1 : Hid (Below w.heap.size w (W.alloc (.cells (RSp.mk x y).vals.toArray 43))) := HB0.out.alloc HB0.out.size _
  go_wp2_with fail
  refine (normal_in (some ⟨W.heap.size, 0, none⟩) 1 1 [⟨x, y⟩] _ R1.out (by omega)).mono ?_
  intro e w3 h3
  have HS := Lib.hid (h3.mono B1.out)
  obtain ⟨A3, n3, c3, out, rfl, q1, q2, q3, q4, q5, q6, q7⟩ := HS.out
  clear h3
  go_wp2
  go_ret
  exact HS.out
end Go.Proofs.YtgfbflnhjpbceaaGreatDoor.Nrm

namespace Go.Proofs.YtgfbflnhjpbceaaGreatDoor.Prec
open Go.RowKit Num Ident Semver

/-- The same with a yes or a no beside it. -/
def EndPost (w : World) (o : Option Ver) (e : Ending) (w' : World) : Prop :=
  ∃ A c, e = .returned (.tuple #[.agg #[.int .u64 ((verOf o).a : Int), .int .u64 ((verOf o).b : Int), .int .u64 ((verOf o).c : Int), .slice A (verOf o).pre.length c, .slice none (verOf o).build.length 0], .bool o.isSome]) ∧ SRow w' A (verOf o).pre.length (verOf o).pre ∧ (verOf o).build = [] ∧ Below w.heap.size w w'

theorem zeroU : ∀ w, (zeroValue 22).run Tryz.prog w = .ok (.int .u64 0) w := fun w => by kernel_rfl
theorem clear2 (W : World) (b : Nat) (u0 u1 u2 : Value) (h : At3 W b u0 u1 u2) (ty : TypeId) :
    (Builtin.clear_ #[165] ty #[.slice (some ⟨b, 1, none⟩) 2 2]).run Tryz.prog W = .ok (.tuple #[]) ((W.setCell ⟨b, 1, none⟩ (.int .u64 0)).setCell ⟨b, 2, none⟩ (.int .u64 0)) :=
  Lib.run_clear_slice W 165 22 ty (.int .u64 0) Tryz.underlying165 zeroU rfl rfl b 1 2 2 (by omega) (fun j hj => by
    obtain ⟨_, _, c0, c1, c2⟩ := h
    match j, hj with
    | 0, _ => rw [show (1 + 0) = 1 from rfl, c1]; rfl
    | 1, _ => rw [show (1 + 1) = 2 from rfl, c2]; rfl) (fun j _ => h.2.1 _)
theorem clear1 (W : World) (b : Nat) (u0 u1 u2 : Value) (h : At3 W b u0 u1 u2) (ty : TypeId) :
    (Builtin.clear_ #[165] ty #[.slice (some ⟨b, 2, none⟩) 1 1]).run Tryz.prog W = .ok (.tuple #[]) (W.setCell ⟨b, 2, none⟩ (.int .u64 0)) :=
  Lib.run_clear_slice W 165 22 ty (.int .u64 0) Tryz.underlying165 zeroU rfl rfl b 2 1 1 (by omega) (fun j hj => by
    obtain ⟨_, _, c0, c1, c2⟩ := h
    match j, hj with
    | 0, _ => rw [show (2 + 0) = 2 from rfl, c2]; rfl) (fun j _ => h.2.1 _)
theorem clear0 (W : World) (A : Option Addr) (ty : TypeId) :
    (Builtin.clear_ #[165] ty #[.slice A 0 0]).run Tryz.prog W = .ok (.tuple #[]) W := by
  cases A <;> simp [Builtin.clear_, run_underlying Tryz.underlying165]

/-- What First leaves, over whole numbers. -/
def FirstZ (w : World) (p q r : Int) (e : Ending) (w' : World) : Prop :=
  ∃ A, e = .returned (.agg #[.int .u64 p, .int .u64 q, .int .u64 r, .slice A 1 1, .slice none 0 0]) ∧ SRow w' A 1 [[48]] ∧ Below w.heap.size w w'
def EndZ (w : World) (p q r : Int) (e : Ending) (w' : World) : Prop :=
  ∃ A, e = .returned (.tuple #[.agg #[.int .u64 p, .int .u64 q, .int .u64 r, .slice A 1 1, .slice none 0 0], .bool true]) ∧ SRow w' A 1 [[48]] ∧ Below w.heap.size w w'
def NoneZ (w : World) (e : Ending) (w' : World) : Prop :=
  e = .returned (.tuple #[.agg #[.int .u64 0, .int .u64 0, .int .u64 0, .slice none 0 0, .slice none 0 0], .bool false]) ∧ Below w.heap.size w w'

set_option maxRecDepth 100000 in
set_option maxHeartbeats 800000 in
theorem first_int (p q r : Int) (w : World) :
    Calls Tryz.prog 147 #[.int .u64 p, .int .u64 q, .int .u64 r] w (FirstZ w p q r) := by
  go_enter Tryz.func147, Tryz.ntmps147
  go_wp2
  refine bodyPost_ret (v := .agg #[.int .u64 p, .int .u64 q, .int .u64 r, .slice (some ⟨w.heap.size + 1, 0, none⟩) 1 1, .slice none 0 0]) (by simp [results, Tryz.results147, go_sem]) rfl ?_
  refine ⟨some ⟨w.heap.size + 1, 0, none⟩, rfl, ?_, ((Below.refl _ _).alloc (Nat.le_refl _) _).alloc (by simp) _⟩
  have := SRow.one (w.alloc (.cells #[.int .u64 p, .int .u64 q, .int .u64 r, .slice (some ⟨w.heap.size + 1, 0, none⟩) 1 1, .slice none 0 0] 25)) [48]
  rw [size_alloc] at this; exact this

/-! The end at each place. -/

theorem At5.beside {W : World} {b b' o : Nat} {u0 u1 u2 u3 u4 : Value} (h : At5 W b u0 u1 u2 u3 u4) (hb : b ≠ b') (v : Value) : At5 (W.setCell ⟨b', o, none⟩ v) b u0 u1 u2 u3 u4 := by
  obtain ⟨h1, h2, c0, c1, c2, c3, c4⟩ := h
  have k : ∀ j, (W.setCell ⟨b', o, none⟩ v).cell? ⟨b, j, none⟩ = W.cell? ⟨b, j, none⟩ := fun j => World.cell?_setCell_other _ _ _ _ (by intro e; injection e with e; exact hb e.symm)
  exact ⟨by simpa using h1, fun o => by simp [go_sem, h2], (k 0).trans c0, (k 1).trans c1, (k 2).trans c2, (k 3).trans c3, (k 4).trans c4⟩

set_option maxRecDepth 100000 in
set_option maxHeartbeats 1600000 in
theorem endAt0 (p q r : Int) (w : World) (h0 : 0 ≤ p) (h1 : p < 9223372036854775807) :
    Calls Tryz.prog 124 #[.agg #[.int .u64 p, .int .u64 q, .int .u64 r], .int .i64 0] w (EndZ w (p + 1) 0 0) := by
  have HB0 : Hid (Below w.heap.size w ((w.alloc (.cells #[.int .u64 (p + 1), .int .u64 q, .int .u64 r] 147)).alloc (.cells #[.int .u64 0, .int .u64 0, .int .u64 0, .slice none 0 0, .slice none 0 0] 25))) := ((Below.refl _ _).alloc (Nat.le_refl _) _).alloc (by simp) _
  have K1 : Hid (At3 ((w.alloc (.cells #[.int .u64 (p + 1), .int .u64 q, .int .u64 r] 147)).alloc (.cells #[.int .u64 0, .int .u64 0, .int .u64 0, .slice none 0 0, .slice none 0 0] 25)) w.heap.size (.int .u64 (p + 1)) (.int .u64 q) (.int .u64 r)) := (At3.new w 147 _ _ _).kept ((Below.refl _ _).alloc (Nat.le_refl _) _) (by simp)
  have K2 : Hid (At5 ((w.alloc (.cells #[.int .u64 (p + 1), .int .u64 q, .int .u64 r] 147)).alloc (.cells #[.int .u64 0, .int .u64 0, .int .u64 0, .slice none 0 0, .slice none 0 0] 25)) (w.heap.size + 1) (.int .u64 0) (.int .u64 0) (.int .u64 0) (.slice none 0 0) (.slice none 0 0)) := by
    have := At5.new (w.alloc (.cells #[.int .u64 (p + 1), .int .u64 q, .int .u64 r] 147)) 25 (.int .u64 0) (.int .u64 0) (.int .u64 0) (.slice none 0 0) (.slice none 0 0)
    rw [size_alloc] at this; exact this
  go_enter Tryz.func124, Tryz.ntmps124
  go_upto_region 4 with (fail)
  generalize ((w.alloc (.cells #[.int .u64 (p + 1), .int .u64 q, .int .u64 r] 147)).alloc (.cells #[.int .u64 0, .int .u64 0, .int .u64 0, .slice none 0 0, .slice none 0 0] 25)) = W at HB0 K1 K2 ⊢
  have hcl := clear2 W w.heap.size _ _ _ K1.out
  go_upto_region 5 with (simp only [hcl])
  have L1 : Hid (At3 ((W.setCell ⟨w.heap.size, 1, none⟩ (.int .u64 0)).setCell ⟨w.heap.size, 2, none⟩ (.int .u64 0)) w.heap.size (.int .u64 (p + 1)) (.int .u64 0) (.int .u64 0)) := (At3.set2 (At3.set1 K1.out (.int .u64 0)) (.int .u64 0))
  have L2 : Hid (At5 ((W.setCell ⟨w.heap.size, 1, none⟩ (.int .u64 0)).setCell ⟨w.heap.size, 2, none⟩ (.int .u64 0)) (w.heap.size + 1) (.int .u64 0) (.int .u64 0) (.int .u64 0) (.slice none 0 0) (.slice none 0 0)) := (At5.beside (At5.beside K2.out (b' := w.heap.size) (o := 1) (by omega) (.int .u64 0)) (b' := w.heap.size) (o := 2) (by omega) (.int .u64 0))
  have B1 : Hid (Below w.heap.size w ((W.setCell ⟨w.heap.size, 1, none⟩ (.int .u64 0)).setCell ⟨w.heap.size, 2, none⟩ (.int .u64 0))) := ((HB0.out.setCell (by simp) _).setCell (by simp) _)
  generalize ((W.setCell ⟨w.heap.size, 1, none⟩ (.int .u64 0)).setCell ⟨w.heap.size, 2, none⟩ (.int .u64 0)) = W1 at L1 L2 B1 ⊢
  clear hcl
  clear K1 K2 HB0
  obtain ⟨hz1, _, x0, x1, x2⟩ := L1.out
  obtain ⟨hz2, _, y0, y1, y2, y3, y4⟩ := L2.out
  go_wp2_with fail
  refine (first_int _ _ _ _).mono ?_
  rintro e w3 ⟨A, rfl, hr, hb3⟩
  have N2 := Lib.hid (L2.out.kept hb3 hz2)
  have B3 := Lib.hid (B1.out.trans (hb3.mono (by omega)))
  obtain ⟨hz3, hf, g0, g1, g2, g3, g4⟩ := N2.out
  have R := Lib.hid (hr.set5 g0 g1 g2 g3 g4 (by simp) (by simp) (by simp) (by simp) (by simp) (.int .u64 (p + 1)) (.int .u64 0) (.int .u64 0) (.slice A 1 1) (.slice none 0 0))
  have B4 : Hid (Below w.heap.size w (set5 w3 (w.heap.size + 1) (.int .u64 (p + 1)) (.int .u64 0) (.int .u64 0) (.slice A 1 1) (.slice none 0 0))) := (((((B3.out.setCell (by simp) _).setCell (by simp) _).setCell (by simp) _).setCell (by simp) _).setCell (by simp) _)
  have N3 := Lib.hid (N2.out.set5 (.int .u64 (p + 1)) (.int .u64 0) (.int .u64 0) (.slice A 1 1) (.slice none 0 0))
  clear hr hb3 x0 x1 x2 y0 y1 y2 y3 y4
  unfold set5 at B4 N3
  go_wp2
  generalize (((((w3.setCell ⟨w.heap.size + 1, 0, none⟩ (.int .u64 (p + 1))).setCell ⟨w.heap.size + 1, 1, none⟩ (.int .u64 0)).setCell ⟨w.heap.size + 1, 2, none⟩ (.int .u64 0)).setCell ⟨w.heap.size + 1, 3, none⟩ (.slice A 1 1)).setCell ⟨w.heap.size + 1, 4, none⟩ (.slice none 0 0)) = w4 at R B4 N3 ⊢
  obtain ⟨_, _, z0, z1, z2, z3, z4⟩ := N3.out
  exact bodyPost_ret (v := .tuple #[.agg #[.int .u64 (p + 1), .int .u64 0, .int .u64 0, .slice A 1 1, .slice none 0 0], .bool true]) (by simp [results, Tryz.results124, go_sem, z0, z1, z2, z3, z4]) rfl ⟨A, rfl, R.out, B4.out⟩

set_option maxRecDepth 100000 in
set_option maxHeartbeats 1600000 in
theorem endNo0 (p q r : Int) (w : World) (h1 : 9223372036854775807 ≤ p) :
    Calls Tryz.prog 124 #[.agg #[.int .u64 p, .int .u64 q, .int .u64 r], .int .i64 0] w (NoneZ w) := by
  have HB0 : Hid (Below w.heap.size w ((w.alloc (.cells #[.int .u64 p, .int .u64 q, .int .u64 r] 147)).alloc (.cells #[.int .u64 0, .int .u64 0, .int .u64 0, .slice none 0 0, .slice none 0 0] 25))) := ((Below.refl _ _).alloc (Nat.le_refl _) _).alloc (by simp) _
  go_enter Tryz.func124, Tryz.ntmps124
  go_wp2
  exact bodyPost_ret (v := .tuple #[.agg #[.int .u64 0, .int .u64 0, .int .u64 0, .slice none 0 0, .slice none 0 0], .bool false]) (by simp [results, Tryz.results124, go_sem]) rfl ⟨rfl, HB0.out⟩

set_option maxRecDepth 100000 in
set_option maxHeartbeats 1600000 in
theorem endAt1 (p q r : Int) (w : World) (h0 : 0 ≤ q) (h1 : q < 9223372036854775807) :
    Calls Tryz.prog 124 #[.agg #[.int .u64 p, .int .u64 q, .int .u64 r], .int .i64 1] w (EndZ w p (q + 1) 0) := by
  have HB0 : Hid (Below w.heap.size w ((w.alloc (.cells #[.int .u64 p, .int .u64 (q + 1), .int .u64 r] 147)).alloc (.cells #[.int .u64 0, .int .u64 0, .int .u64 0, .slice none 0 0, .slice none 0 0] 25))) := ((Below.refl _ _).alloc (Nat.le_refl _) _).alloc (by simp) _
  have K1 : Hid (At3 ((w.alloc (.cells #[.int .u64 p, .int .u64 (q + 1), .int .u64 r] 147)).alloc (.cells #[.int .u64 0, .int .u64 0, .int .u64 0, .slice none 0 0, .slice none 0 0] 25)) w.heap.size (.int .u64 p) (.int .u64 (q + 1)) (.int .u64 r)) := (At3.new w 147 _ _ _).kept ((Below.refl _ _).alloc (Nat.le_refl _) _) (by simp)
  have K2 : Hid (At5 ((w.alloc (.cells #[.int .u64 p, .int .u64 (q + 1), .int .u64 r] 147)).alloc (.cells #[.int .u64 0, .int .u64 0, .int .u64 0, .slice none 0 0, .slice none 0 0] 25)) (w.heap.size + 1) (.int .u64 0) (.int .u64 0) (.int .u64 0) (.slice none 0 0) (.slice none 0 0)) := by
    have := At5.new (w.alloc (.cells #[.int .u64 p, .int .u64 (q + 1), .int .u64 r] 147)) 25 (.int .u64 0) (.int .u64 0) (.int .u64 0) (.slice none 0 0) (.slice none 0 0)
    rw [size_alloc] at this; exact this
  go_enter Tryz.func124, Tryz.ntmps124
  go_upto_region 4 with (fail)
  generalize ((w.alloc (.cells #[.int .u64 p, .int .u64 (q + 1), .int .u64 r] 147)).alloc (.cells #[.int .u64 0, .int .u64 0, .int .u64 0, .slice none 0 0, .slice none 0 0] 25)) = W at HB0 K1 K2 ⊢
  have hcl := clear1 W w.heap.size _ _ _ K1.out
  go_upto_region 5 with (simp only [hcl])
  have L1 : Hid (At3 (W.setCell ⟨w.heap.size, 2, none⟩ (.int .u64 0)) w.heap.size (.int .u64 p) (.int .u64 (q + 1)) (.int .u64 0)) := (At3.set2 K1.out (.int .u64 0))
  have L2 : Hid (At5 (W.setCell ⟨w.heap.size, 2, none⟩ (.int .u64 0)) (w.heap.size + 1) (.int .u64 0) (.int .u64 0) (.int .u64 0) (.slice none 0 0) (.slice none 0 0)) := (At5.beside K2.out (b' := w.heap.size) (o := 2) (by omega) (.int .u64 0))
  have B1 : Hid (Below w.heap.size w (W.setCell ⟨w.heap.size, 2, none⟩ (.int .u64 0))) := (HB0.out.setCell (by simp) _)
  generalize (W.setCell ⟨w.heap.size, 2, none⟩ (.int .u64 0)) = W1 at L1 L2 B1 ⊢
  clear hcl
  clear K1 K2 HB0
  obtain ⟨hz1, _, x0, x1, x2⟩ := L1.out
  obtain ⟨hz2, _, y0, y1, y2, y3, y4⟩ := L2.out
  go_wp2_with fail
  refine (first_int _ _ _ _).mono ?_
  rintro e w3 ⟨A, rfl, hr, hb3⟩
  have N2 := Lib.hid (L2.out.kept hb3 hz2)
  have B3 := Lib.hid (B1.out.trans (hb3.mono (by omega)))
  obtain ⟨hz3, hf, g0, g1, g2, g3, g4⟩ := N2.out
  have R := Lib.hid (hr.set5 g0 g1 g2 g3 g4 (by simp) (by simp) (by simp) (by simp) (by simp) (.int .u64 p) (.int .u64 (q + 1)) (.int .u64 0) (.slice A 1 1) (.slice none 0 0))
  have B4 : Hid (Below w.heap.size w (set5 w3 (w.heap.size + 1) (.int .u64 p) (.int .u64 (q + 1)) (.int .u64 0) (.slice A 1 1) (.slice none 0 0))) := (((((B3.out.setCell (by simp) _).setCell (by simp) _).setCell (by simp) _).setCell (by simp) _).setCell (by simp) _)
  have N3 := Lib.hid (N2.out.set5 (.int .u64 p) (.int .u64 (q + 1)) (.int .u64 0) (.slice A 1 1) (.slice none 0 0))
  clear hr hb3 x0 x1 x2 y0 y1 y2 y3 y4
  unfold set5 at B4 N3
  go_wp2
  generalize (((((w3.setCell ⟨w.heap.size + 1, 0, none⟩ (.int .u64 p)).setCell ⟨w.heap.size + 1, 1, none⟩ (.int .u64 (q + 1))).setCell ⟨w.heap.size + 1, 2, none⟩ (.int .u64 0)).setCell ⟨w.heap.size + 1, 3, none⟩ (.slice A 1 1)).setCell ⟨w.heap.size + 1, 4, none⟩ (.slice none 0 0)) = w4 at R B4 N3 ⊢
  obtain ⟨_, _, z0, z1, z2, z3, z4⟩ := N3.out
  exact bodyPost_ret (v := .tuple #[.agg #[.int .u64 p, .int .u64 (q + 1), .int .u64 0, .slice A 1 1, .slice none 0 0], .bool true]) (by simp [results, Tryz.results124, go_sem, z0, z1, z2, z3, z4]) rfl ⟨A, rfl, R.out, B4.out⟩

set_option maxRecDepth 100000 in
set_option maxHeartbeats 1600000 in
theorem endNo1 (p q r : Int) (w : World) (h1 : 9223372036854775807 ≤ q) :
    Calls Tryz.prog 124 #[.agg #[.int .u64 p, .int .u64 q, .int .u64 r], .int .i64 1] w (NoneZ w) := by
  have HB0 : Hid (Below w.heap.size w ((w.alloc (.cells #[.int .u64 p, .int .u64 q, .int .u64 r] 147)).alloc (.cells #[.int .u64 0, .int .u64 0, .int .u64 0, .slice none 0 0, .slice none 0 0] 25))) := ((Below.refl _ _).alloc (Nat.le_refl _) _).alloc (by simp) _
  go_enter Tryz.func124, Tryz.ntmps124
  go_wp2
  exact bodyPost_ret (v := .tuple #[.agg #[.int .u64 0, .int .u64 0, .int .u64 0, .slice none 0 0, .slice none 0 0], .bool false]) (by simp [results, Tryz.results124, go_sem]) rfl ⟨rfl, HB0.out⟩

set_option maxRecDepth 100000 in
set_option maxHeartbeats 1600000 in
theorem endAt2 (p q r : Int) (w : World) (h0 : 0 ≤ r) (h1 : r < 9223372036854775807) :
    Calls Tryz.prog 124 #[.agg #[.int .u64 p, .int .u64 q, .int .u64 r], .int .i64 2] w (EndZ w p q (r + 1)) := by
  have HB0 : Hid (Below w.heap.size w ((w.alloc (.cells #[.int .u64 p, .int .u64 q, .int .u64 (r + 1)] 147)).alloc (.cells #[.int .u64 0, .int .u64 0, .int .u64 0, .slice none 0 0, .slice none 0 0] 25))) := ((Below.refl _ _).alloc (Nat.le_refl _) _).alloc (by simp) _
  have K1 : Hid (At3 ((w.alloc (.cells #[.int .u64 p, .int .u64 q, .int .u64 (r + 1)] 147)).alloc (.cells #[.int .u64 0, .int .u64 0, .int .u64 0, .slice none 0 0, .slice none 0 0] 25)) w.heap.size (.int .u64 p) (.int .u64 q) (.int .u64 (r + 1))) := (At3.new w 147 _ _ _).kept ((Below.refl _ _).alloc (Nat.le_refl _) _) (by simp)
  have K2 : Hid (At5 ((w.alloc (.cells #[.int .u64 p, .int .u64 q, .int .u64 (r + 1)] 147)).alloc (.cells #[.int .u64 0, .int .u64 0, .int .u64 0, .slice none 0 0, .slice none 0 0] 25)) (w.heap.size + 1) (.int .u64 0) (.int .u64 0) (.int .u64 0) (.slice none 0 0) (.slice none 0 0)) := by
    have := At5.new (w.alloc (.cells #[.int .u64 p, .int .u64 q, .int .u64 (r + 1)] 147)) 25 (.int .u64 0) (.int .u64 0) (.int .u64 0) (.slice none 0 0) (.slice none 0 0)
    rw [size_alloc] at this; exact this
  go_enter Tryz.func124, Tryz.ntmps124
  go_upto_region 4 with (fail)
  generalize ((w.alloc (.cells #[.int .u64 p, .int .u64 q, .int .u64 (r + 1)] 147)).alloc (.cells #[.int .u64 0, .int .u64 0, .int .u64 0, .slice none 0 0, .slice none 0 0] 25)) = W at HB0 K1 K2 ⊢
  have hcl := clear0 W
  go_upto_region 5 with (simp only [hcl])
  have L1 := K1
  have L2 := K2
  have B1 := HB0
  have : ∃ W1, W1 = W := ⟨_, rfl⟩
  obtain ⟨W1, hW1⟩ := this
  rw [← hW1] at L1 L2 B1 ⊢
  clear hW1
  clear hcl
  clear K1 K2 HB0
  obtain ⟨hz1, _, x0, x1, x2⟩ := L1.out
  obtain ⟨hz2, _, y0, y1, y2, y3, y4⟩ := L2.out
  go_wp2_with fail
  refine (first_int _ _ _ _).mono ?_
  rintro e w3 ⟨A, rfl, hr, hb3⟩
  have N2 := Lib.hid (L2.out.kept hb3 hz2)
  have B3 := Lib.hid (B1.out.trans (hb3.mono (by omega)))
  obtain ⟨hz3, hf, g0, g1, g2, g3, g4⟩ := N2.out
  have R := Lib.hid (hr.set5 g0 g1 g2 g3 g4 (by simp) (by simp) (by simp) (by simp) (by simp) (.int .u64 p) (.int .u64 q) (.int .u64 (r + 1)) (.slice A 1 1) (.slice none 0 0))
  have B4 : Hid (Below w.heap.size w (set5 w3 (w.heap.size + 1) (.int .u64 p) (.int .u64 q) (.int .u64 (r + 1)) (.slice A 1 1) (.slice none 0 0))) := (((((B3.out.setCell (by simp) _).setCell (by simp) _).setCell (by simp) _).setCell (by simp) _).setCell (by simp) _)
  have N3 := Lib.hid (N2.out.set5 (.int .u64 p) (.int .u64 q) (.int .u64 (r + 1)) (.slice A 1 1) (.slice none 0 0))
  clear hr hb3 x0 x1 x2 y0 y1 y2 y3 y4
  unfold set5 at B4 N3
  go_wp2
  generalize (((((w3.setCell ⟨w.heap.size + 1, 0, none⟩ (.int .u64 p)).setCell ⟨w.heap.size + 1, 1, none⟩ (.int .u64 q)).setCell ⟨w.heap.size + 1, 2, none⟩ (.int .u64 (r + 1))).setCell ⟨w.heap.size + 1, 3, none⟩ (.slice A 1 1)).setCell ⟨w.heap.size + 1, 4, none⟩ (.slice none 0 0)) = w4 at R B4 N3 ⊢
  obtain ⟨_, _, z0, z1, z2, z3, z4⟩ := N3.out
  exact bodyPost_ret (v := .tuple #[.agg #[.int .u64 p, .int .u64 q, .int .u64 (r + 1), .slice A 1 1, .slice none 0 0], .bool true]) (by simp [results, Tryz.results124, go_sem, z0, z1, z2, z3, z4]) rfl ⟨A, rfl, R.out, B4.out⟩

set_option maxRecDepth 100000 in
set_option maxHeartbeats 1600000 in
theorem endNo2 (p q r : Int) (w : World) (h1 : 9223372036854775807 ≤ r) :
    Calls Tryz.prog 124 #[.agg #[.int .u64 p, .int .u64 q, .int .u64 r], .int .i64 2] w (NoneZ w) := by
  have HB0 : Hid (Below w.heap.size w ((w.alloc (.cells #[.int .u64 p, .int .u64 q, .int .u64 r] 147)).alloc (.cells #[.int .u64 0, .int .u64 0, .int .u64 0, .slice none 0 0, .slice none 0 0] 25))) := ((Below.refl _ _).alloc (Nat.le_refl _) _).alloc (by simp) _
  go_enter Tryz.func124, Tryz.ntmps124
  go_wp2
  exact bodyPost_ret (v := .tuple #[.agg #[.int .u64 0, .int .u64 0, .int .u64 0, .slice none 0 0, .slice none 0 0], .bool false]) (by simp [results, Tryz.results124, go_sem]) rfl ⟨rfl, HB0.out⟩
end Go.Proofs.YtgfbflnhjpbceaaGreatDoor.Prec

namespace Go.Proofs.YtgfbflnhjpbceaaGreatDoor.Prec
open Go.RowKit Num Ident Semver

theorem EndPost.of_none {w : World} {e : Ending} {w' : World} (h : NoneZ w e w') : EndPost w none e w' := by
  obtain ⟨rfl, hb⟩ := h
  exact ⟨none, 0, rfl, SRow.none_ _ _, rfl, hb⟩
theorem EndPost.of_end {w : World} {x y z : Nat} {p q r : Int} {e : Ending} {w' : World} (h : EndZ w p q r e w') (hp : p = (x : Int)) (hq : q = (y : Int)) (hr : r = (z : Int)) : EndPost w (some (firstV x y z)) e w' := by
  subst hp hq hr
  obtain ⟨A, rfl, h1, hb⟩ := h
  exact ⟨A, 1, rfl, h1, rfl, hb⟩
theorem end_0_no {x y z : Nat} (h : (9223372036854775807 : Int) ≤ (x : Int)) : endV x y z 0 = none := by unfold endV; rw [if_pos rfl, if_pos (by omega)]
theorem end_0_yes {x y z : Nat} (h : (x : Int) < 9223372036854775807) : endV x y z 0 = some (firstV (x + 1) 0 0) := by unfold endV; rw [if_pos rfl, if_neg (by omega)]
theorem end_1_no {x y z : Nat} (h : (9223372036854775807 : Int) ≤ (y : Int)) : endV x y z 1 = none := by unfold endV; rw [if_neg (by omega), if_pos rfl, if_pos (by omega)]
theorem end_1_yes {x y z : Nat} (h : (y : Int) < 9223372036854775807) : endV x y z 1 = some (firstV x (y + 1) 0) := by unfold endV; rw [if_neg (by omega), if_pos rfl, if_neg (by omega)]
theorem end_2_no {x y z : Nat} (h : (9223372036854775807 : Int) ≤ (z : Int)) : endV x y z 2 = none := by unfold endV; rw [if_neg (by omega), if_neg (by omega), if_pos (by omega)]
theorem end_2_yes {x y z : Nat} (h : (z : Int) < 9223372036854775807) : endV x y z 2 = some (firstV x y (z + 1)) := by unfold endV; rw [if_neg (by omega), if_neg (by omega), if_neg (by omega)]
theorem endAt_0 (x y z : Nat) (w : World) : Calls Tryz.prog 124 #[.agg #[.int .u64 (x : Int), .int .u64 (y : Int), .int .u64 (z : Int)], .int .i64 0] w (EndPost w (endV x y z 0)) := by
  by_cases h : (9223372036854775807 : Int) ≤ (x : Int)
  · rw [end_0_no h]
    exact (endNo0 x y z w h).mono fun e w' hk => EndPost.of_none hk
  · rw [end_0_yes (by omega)]
    exact (endAt0 x y z w (by omega) (by omega)).mono fun e w' hk => EndPost.of_end hk (by omega) (by omega) (by omega)
theorem endAt_1 (x y z : Nat) (w : World) : Calls Tryz.prog 124 #[.agg #[.int .u64 (x : Int), .int .u64 (y : Int), .int .u64 (z : Int)], .int .i64 1] w (EndPost w (endV x y z 1)) := by
  by_cases h : (9223372036854775807 : Int) ≤ (y : Int)
  · rw [end_1_no h]
    exact (endNo1 x y z w h).mono fun e w' hk => EndPost.of_none hk
  · rw [end_1_yes (by omega)]
    exact (endAt1 x y z w (by omega) (by omega)).mono fun e w' hk => EndPost.of_end hk (by omega) (by omega) (by omega)
theorem endAt_2 (x y z : Nat) (w : World) : Calls Tryz.prog 124 #[.agg #[.int .u64 (x : Int), .int .u64 (y : Int), .int .u64 (z : Int)], .int .i64 2] w (EndPost w (endV x y z 2)) := by
  by_cases h : (9223372036854775807 : Int) ≤ (z : Int)
  · rw [end_2_no h]
    exact (endNo2 x y z w h).mono fun e w' hk => EndPost.of_none hk
  · rw [end_2_yes (by omega)]
    exact (endAt2 x y z w (by omega) (by omega)).mono fun e w' hk => EndPost.of_end hk (by omega) (by omega) (by omega)
/-- EndPost with the version and the yes or no apart. -/
def EndIs (w : World) (x : Ver) (s : Bool) (e : Ending) (w' : World) : Prop :=
  ∃ A' c', e = .returned (.tuple #[.agg #[.int .u64 (x.a : Int), .int .u64 (x.b : Int), .int .u64 (x.c : Int), .slice A' x.pre.length c', .slice none x.build.length 0], .bool s]) ∧ SRow w' A' x.pre.length x.pre ∧ x.build = [] ∧ Below w.heap.size w w'

set_option maxRecDepth 100000 in
set_option maxHeartbeats 1600000 in
theorem tilde_any (v : Ver) (A : Option Addr) (c : Nat) (B : Option Addr) (d : Nat) (w : World) :
    Calls Tryz.prog 100 #[.agg #[.int .u64 (v.a : Int), .int .u64 (v.b : Int), .int .u64 (v.c : Int), .slice A v.pre.length c, .slice B v.build.length d]] w (EndPost w (tildeV v)) := by
  have HB0 : Hid (Below w.heap.size w ((w.alloc (.cells #[.int .u64 (v.a : Int), .int .u64 (v.b : Int), .int .u64 (v.c : Int), .slice A v.pre.length c, .slice B v.build.length d] 25)).alloc (.cells #[.int .u64 0, .int .u64 0, .int .u64 0, .slice none 0 0, .slice none 0 0] 25))) := ((Below.refl _ _).alloc (Nat.le_refl _) _).alloc (by simp) _
  have K1 : Hid (At5 ((w.alloc (.cells #[.int .u64 (v.a : Int), .int .u64 (v.b : Int), .int .u64 (v.c : Int), .slice A v.pre.length c, .slice B v.build.length d] 25)).alloc (.cells #[.int .u64 0, .int .u64 0, .int .u64 0, .slice none 0 0, .slice none 0 0] 25)) w.heap.size (.int .u64 (v.a : Int)) (.int .u64 (v.b : Int)) (.int .u64 (v.c : Int)) (.slice A v.pre.length c) (.slice B v.build.length d)) := (At5.new w 25 _ _ _ _ _).kept ((Below.refl _ _).alloc (Nat.le_refl _) _) (by simp)
  have K2 : Hid (At5 ((w.alloc (.cells #[.int .u64 (v.a : Int), .int .u64 (v.b : Int), .int .u64 (v.c : Int), .slice A v.pre.length c, .slice B v.build.length d] 25)).alloc (.cells #[.int .u64 0, .int .u64 0, .int .u64 0, .slice none 0 0, .slice none 0 0] 25)) (w.heap.size + 1) (.int .u64 0) (.int .u64 0) (.int .u64 0) (.slice none 0 0) (.slice none 0 0)) := by
    have := At5.new (w.alloc (.cells #[.int .u64 (v.a : Int), .int .u64 (v.b : Int), .int .u64 (v.c : Int), .slice A v.pre.length c, .slice B v.build.length d] 25)) 25 (.int .u64 0) (.int .u64 0) (.int .u64 0) (.slice none 0 0) (.slice none 0 0)
    rw [size_alloc] at this; exact this
  have HE : Hid (∀ W, Calls Tryz.prog 124 #[.agg #[.int .u64 (v.a : Int), .int .u64 (v.b : Int), .int .u64 (v.c : Int)], .int .i64 1] W (EndPost W (tildeV v))) := fun W => endAt_1 v.a v.b v.c W
  generalize tildeV v = o at HE ⊢
  have HP' : Hid (∀ e w', EndIs w (verOf o) o.isSome e w' → EndPost w o e w') := fun _ _ h => h
  go_enter Tryz.func100, Tryz.ntmps100
  go_upto_region 1 with (fail)
  generalize ((w.alloc (.cells #[.int .u64 (v.a : Int), .int .u64 (v.b : Int), .int .u64 (v.c : Int), .slice A v.pre.length c, .slice B v.build.length d] 25)).alloc (.cells #[.int .u64 0, .int .u64 0, .int .u64 0, .slice none 0 0, .slice none 0 0] 25)) = W at HB0 K1 K2 ⊢
  obtain ⟨hz0, _, x0, x1, x2, x3, x4⟩ := K1.out
  obtain ⟨hz1, _, y0, y1, y2, y3, y4⟩ := K2.out
  go_wp2_with fail
  refine (coreOf_any _ _ _ _ _ _).mono ?_
  rintro e w2 ⟨rfl, hb2⟩
  have L2 := Lib.hid (K2.out.kept hb2 hz1)
  have B1 := Lib.hid (HB0.out.trans (hb2.mono (by omega)))
  have hz2 := L2.out.1
  clear hb2 x0 x1 x2 x3 x4 y0 y1 y2 y3 y4
  obtain ⟨_, _, y0, y1, y2, y3, y4⟩ := L2.out
  go_wp2_with fail
  refine (HE.out _).mono ?_
  rintro e w3 ⟨A', c', rfl, hr, hbu, hb3⟩
  have HU := Lib.hid hbu
  generalize verOf o = x at hr HU HP' ⊢
  generalize o.isSome = s at HP' ⊢
  have N2 := Lib.hid (L2.out.kept hb3 hz2)
  have B3 := Lib.hid (B1.out.trans (hb3.mono (by omega)))
  obtain ⟨hz3, hf, g0, g1, g2, g3, g4⟩ := N2.out
  have R := Lib.hid (hr.set5 g0 g1 g2 g3 g4 (by simp) (by simp) (by simp) (by simp) (by simp) (.int .u64 (x.a : Int)) (.int .u64 (x.b : Int)) (.int .u64 (x.c : Int)) (.slice A' x.pre.length c') (.slice none x.build.length 0))
  have B4 : Hid (Below w.heap.size w (set5 w3 (w.heap.size + 1) (.int .u64 (x.a : Int)) (.int .u64 (x.b : Int)) (.int .u64 (x.c : Int)) (.slice A' x.pre.length c') (.slice none x.build.length 0))) := (((((B3.out.setCell (by simp) _).setCell (by simp) _).setCell (by simp) _).setCell (by simp) _).setCell (by simp) _)
  have N3 := Lib.hid (N2.out.set5 (.int .u64 (x.a : Int)) (.int .u64 (x.b : Int)) (.int .u64 (x.c : Int)) (.slice A' x.pre.length c') (.slice none x.build.length 0))
  clear hr hb3
  unfold set5 at B4 N3
  go_wp2
  generalize (((((w3.setCell ⟨w.heap.size + 1, 0, none⟩ (.int .u64 (x.a : Int))).setCell ⟨w.heap.size + 1, 1, none⟩ (.int .u64 (x.b : Int))).setCell ⟨w.heap.size + 1, 2, none⟩ (.int .u64 (x.c : Int))).setCell ⟨w.heap.size + 1, 3, none⟩ (.slice A' x.pre.length c')).setCell ⟨w.heap.size + 1, 4, none⟩ (.slice none x.build.length 0)) = w4 at R B4 N3 ⊢
  obtain ⟨_, _, z0, z1, z2, z3, z4⟩ := N3.out
  exact bodyPost_ret (v := .tuple #[.agg #[.int .u64 (x.a : Int), .int .u64 (x.b : Int), .int .u64 (x.c : Int), .slice A' x.pre.length c', .slice none x.build.length 0], .bool s]) (by simp [results, Tryz.results100, go_sem, z0, z1, z2, z3, z4]) rfl (HP'.out _ _ ⟨A', c', rfl, R.out, HU.out, B4.out⟩)

def CaretAt (v : Ver) (i : Nat) : Prop := i = 0 ∨ (i = 1 ∧ v.a = 0) ∨ (i = 2 ∧ v.a = 0 ∧ v.b = 0)
def CaretJ (w : World) (v : Ver) (A : Option Addr) (c : Nat) (B : Option Addr) (d : Nat) (a' : Act) (w' : World) : Prop :=
  ∃ (i b : Nat) (u6 u7 u8 u9 u10 u11 u12 u13 u14 u15 u16 u17 u18 u19 u20 u21 u22 : Value), Below w.heap.size w w' ∧ At5 w' (w.heap.size + 1) (.int .u64 0) (.int .u64 0) (.int .u64 0) (.slice none 0 0) (.slice none 0 0) ∧ At3 w' b (.int .u64 (v.a : Int)) (.int .u64 (v.b : Int)) (.int .u64 (v.c : Int)) ∧ CaretAt v i ∧
    a' = { tmps := #[.agg #[.int .u64 (v.a : Int), .int .u64 (v.b : Int), .int .u64 (v.c : Int), .slice A v.pre.length c, .slice B v.build.length d], .pointer (some ⟨w.heap.size, 0, none⟩), .pointer (some ⟨w.heap.size + 1, 0, none⟩), .bool false, .pointer (some ⟨b, 0, none⟩), .int .i64 i, u6, u7, u8, u9, u10, u11, u12, u13, u14, u15, u16, u17, u18, u19, u20, u21, u22], defers := [] }
def CaretM (a' : Act) (_ : World) : Nat := 3 - (intOf (a'.tmps.getD 5 undef)).toNat
theorem caret_0 {v : Ver} (h : v.a ≠ 0) : caretV v = endV v.a v.b v.c 0 := by unfold caretV placeV; rw [if_pos h]
theorem caret_1 {v : Ver} (h : v.a = 0) (h2 : v.b ≠ 0) : caretV v = endV v.a v.b v.c 1 := by unfold caretV placeV; rw [if_neg (by omega), if_pos h2]
theorem caret_2 {v : Ver} (h : v.a = 0) (h2 : v.b = 0) : caretV v = endV v.a v.b v.c 2 := by unfold caretV placeV; rw [if_neg (by omega), if_neg (by omega)]
theorem beq0_no {x : Nat} (h : x ≠ 0) : ((x : Int) == 0) = false := by simp; omega
theorem beq0_yes {x : Nat} (h : x = 0) : ((x : Int) == 0) = true := by simp [h]

set_option maxRecDepth 100000 in
set_option maxHeartbeats 3200000 in
theorem caret_any (v : Ver) (A : Option Addr) (c : Nat) (B : Option Addr) (d : Nat) (w : World) :
    Calls Tryz.prog 99 #[.agg #[.int .u64 (v.a : Int), .int .u64 (v.b : Int), .int .u64 (v.c : Int), .slice A v.pre.length c, .slice B v.build.length d]] w (EndPost w (caretV v)) := by
  have HB0 : Hid (Below w.heap.size w ((w.alloc (.cells #[.int .u64 (v.a : Int), .int .u64 (v.b : Int), .int .u64 (v.c : Int), .slice A v.pre.length c, .slice B v.build.length d] 25)).alloc (.cells #[.int .u64 0, .int .u64 0, .int .u64 0, .slice none 0 0, .slice none 0 0] 25))) := ((Below.refl _ _).alloc (Nat.le_refl _) _).alloc (by simp) _
  have K1 : Hid (At5 ((w.alloc (.cells #[.int .u64 (v.a : Int), .int .u64 (v.b : Int), .int .u64 (v.c : Int), .slice A v.pre.length c, .slice B v.build.length d] 25)).alloc (.cells #[.int .u64 0, .int .u64 0, .int .u64 0, .slice none 0 0, .slice none 0 0] 25)) w.heap.size (.int .u64 (v.a : Int)) (.int .u64 (v.b : Int)) (.int .u64 (v.c : Int)) (.slice A v.pre.length c) (.slice B v.build.length d)) := (At5.new w 25 _ _ _ _ _).kept ((Below.refl _ _).alloc (Nat.le_refl _) _) (by simp)
  have K2 : Hid (At5 ((w.alloc (.cells #[.int .u64 (v.a : Int), .int .u64 (v.b : Int), .int .u64 (v.c : Int), .slice A v.pre.length c, .slice B v.build.length d] 25)).alloc (.cells #[.int .u64 0, .int .u64 0, .int .u64 0, .slice none 0 0, .slice none 0 0] 25)) (w.heap.size + 1) (.int .u64 0) (.int .u64 0) (.int .u64 0) (.slice none 0 0) (.slice none 0 0)) := by
    have := At5.new (w.alloc (.cells #[.int .u64 (v.a : Int), .int .u64 (v.b : Int), .int .u64 (v.c : Int), .slice A v.pre.length c, .slice B v.build.length d] 25)) 25 (.int .u64 0) (.int .u64 0) (.int .u64 0) (.slice none 0 0) (.slice none 0 0)
    rw [size_alloc] at this; exact this
  obtain ⟨o, ho⟩ : ∃ o, caretV v = o := ⟨_, rfl⟩
  have HO := Lib.hid ho
  rw [ho]
  clear ho
  have HP' : Hid (∀ e w', EndIs w (verOf o) o.isSome e w' → EndPost w o e w') := fun _ _ h => h
  go_enter Tryz.func99, Tryz.ntmps99
  go_wp2_with fail
  refine wp_scope_back 0 (CaretJ w v A c B d) CaretM rfl ?_ ?_
  · rintro a' w1 ⟨i, b, u6, u7, u8, u9, u10, u11, u12, u13, u14, u15, u16, u17, u18, u19, u20, u21, u22, hb1, k2, k3, hat, rfl⟩
    have B1 := Lib.hid hb1
    have L2 := Lib.hid k2
    have L3 := Lib.hid k3
    have hz2 := k2.1
    have hz3' := k3.1
    clear hb1
    obtain ⟨_, _, x0, x1, x2⟩ := k3
    obtain ⟨_, _, y0, y1, y2, y3, y4⟩ := k2
    clear HB0 K1 K2
    rcases hat with rfl | ⟨rfl, h1⟩ | ⟨rfl, h1, h2⟩
    · by_cases h : v.a = 0
      · have e1 := beq0_yes h
        have HH := Lib.hid h
        clear h
        go_wp2
        go_step3
        refine ⟨rfl, ⟨1, b, _, _, _, _, _, _, _, _, _, _, _, _, _, _, _, _, _, B1.out, L2.out, L3.out, .inr (.inl ⟨rfl, HH.out⟩), rfl⟩, ?_⟩
        simp [CaretM, intOf]
      · have HE : Hid (∀ W, Calls Tryz.prog 124 #[.agg #[.int .u64 (v.a : Int), .int .u64 (v.b : Int), .int .u64 (v.c : Int)], .int .i64 0] W (EndPost W o)) := fun W => by
          have k := endAt_0 v.a v.b v.c W
          rw [← caret_0 h, HO.out] at k
          exact k
        have e1 := beq0_no h
        clear h
        go_wp2_with fail
        refine (HE.out _).mono ?_
        rintro e w3 ⟨A', c', rfl, hr, hbu, hb3⟩
        have HU := Lib.hid hbu
        generalize verOf o = x at hr HU HP' ⊢
        generalize o.isSome = s at HP' ⊢
        have N2 := Lib.hid (L2.out.kept hb3 hz2)
        have B3 := Lib.hid (B1.out.trans (hb3.mono (by omega)))
        obtain ⟨hz3, hf, g0, g1, g2, g3, g4⟩ := N2.out
        have R := Lib.hid (hr.set5 g0 g1 g2 g3 g4 (by simp) (by simp) (by simp) (by simp) (by simp) (.int .u64 (x.a : Int)) (.int .u64 (x.b : Int)) (.int .u64 (x.c : Int)) (.slice A' x.pre.length c') (.slice none x.build.length 0))
        have B4 : Hid (Below w.heap.size w (set5 w3 (w.heap.size + 1) (.int .u64 (x.a : Int)) (.int .u64 (x.b : Int)) (.int .u64 (x.c : Int)) (.slice A' x.pre.length c') (.slice none x.build.length 0))) := (((((B3.out.setCell (by simp) _).setCell (by simp) _).setCell (by simp) _).setCell (by simp) _).setCell (by simp) _)
        have N3 := Lib.hid (N2.out.set5 (.int .u64 (x.a : Int)) (.int .u64 (x.b : Int)) (.int .u64 (x.c : Int)) (.slice A' x.pre.length c') (.slice none x.build.length 0))
        clear hr hb3
        unfold set5 at B4 N3
        go_wp2
        simp only [Exit.jump]
        generalize (((((w3.setCell ⟨w.heap.size + 1, 0, none⟩ (.int .u64 (x.a : Int))).setCell ⟨w.heap.size + 1, 1, none⟩ (.int .u64 (x.b : Int))).setCell ⟨w.heap.size + 1, 2, none⟩ (.int .u64 (x.c : Int))).setCell ⟨w.heap.size + 1, 3, none⟩ (.slice A' x.pre.length c')).setCell ⟨w.heap.size + 1, 4, none⟩ (.slice none x.build.length 0)) = w4 at R B4 N3 ⊢
        obtain ⟨_, _, z0, z1, z2, z3, z4⟩ := N3.out
        exact bodyPost_ret (v := .tuple #[.agg #[.int .u64 (x.a : Int), .int .u64 (x.b : Int), .int .u64 (x.c : Int), .slice A' x.pre.length c', .slice none x.build.length 0], .bool s]) (by simp [results, Tryz.results99, go_sem, z0, z1, z2, z3, z4]) rfl (HP'.out _ _ ⟨A', c', rfl, R.out, HU.out, B4.out⟩)
    · have H1 := Lib.hid h1
      clear h1
      by_cases h : v.b = 0
      · have e1 := beq0_yes h
        have HH := Lib.hid h
        clear h
        go_wp2
        go_step3
        refine ⟨rfl, ⟨2, b, _, _, _, _, _, _, _, _, _, _, _, _, _, _, _, _, _, B1.out, L2.out, L3.out, .inr (.inr ⟨rfl, H1.out, HH.out⟩), rfl⟩, ?_⟩
        simp [CaretM, intOf]
      · have HE : Hid (∀ W, Calls Tryz.prog 124 #[.agg #[.int .u64 (v.a : Int), .int .u64 (v.b : Int), .int .u64 (v.c : Int)], .int .i64 1] W (EndPost W o)) := fun W => by
          have k := endAt_1 v.a v.b v.c W
          rw [← caret_1 H1.out h, HO.out] at k
          exact k
        have e1 := beq0_no h
        clear h
        go_wp2_with fail
        refine (HE.out _).mono ?_
        rintro e w3 ⟨A', c', rfl, hr, hbu, hb3⟩
        have HU := Lib.hid hbu
        generalize verOf o = x at hr HU HP' ⊢
        generalize o.isSome = s at HP' ⊢
        have N2 := Lib.hid (L2.out.kept hb3 hz2)
        have B3 := Lib.hid (B1.out.trans (hb3.mono (by omega)))
        obtain ⟨hz3, hf, g0, g1, g2, g3, g4⟩ := N2.out
        have R := Lib.hid (hr.set5 g0 g1 g2 g3 g4 (by simp) (by simp) (by simp) (by simp) (by simp) (.int .u64 (x.a : Int)) (.int .u64 (x.b : Int)) (.int .u64 (x.c : Int)) (.slice A' x.pre.length c') (.slice none x.build.length 0))
        have B4 : Hid (Below w.heap.size w (set5 w3 (w.heap.size + 1) (.int .u64 (x.a : Int)) (.int .u64 (x.b : Int)) (.int .u64 (x.c : Int)) (.slice A' x.pre.length c') (.slice none x.build.length 0))) := (((((B3.out.setCell (by simp) _).setCell (by simp) _).setCell (by simp) _).setCell (by simp) _).setCell (by simp) _)
        have N3 := Lib.hid (N2.out.set5 (.int .u64 (x.a : Int)) (.int .u64 (x.b : Int)) (.int .u64 (x.c : Int)) (.slice A' x.pre.length c') (.slice none x.build.length 0))
        clear hr hb3
        unfold set5 at B4 N3
        go_wp2
        simp only [Exit.jump]
        generalize (((((w3.setCell ⟨w.heap.size + 1, 0, none⟩ (.int .u64 (x.a : Int))).setCell ⟨w.heap.size + 1, 1, none⟩ (.int .u64 (x.b : Int))).setCell ⟨w.heap.size + 1, 2, none⟩ (.int .u64 (x.c : Int))).setCell ⟨w.heap.size + 1, 3, none⟩ (.slice A' x.pre.length c')).setCell ⟨w.heap.size + 1, 4, none⟩ (.slice none x.build.length 0)) = w4 at R B4 N3 ⊢
        obtain ⟨_, _, z0, z1, z2, z3, z4⟩ := N3.out
        exact bodyPost_ret (v := .tuple #[.agg #[.int .u64 (x.a : Int), .int .u64 (x.b : Int), .int .u64 (x.c : Int), .slice A' x.pre.length c', .slice none x.build.length 0], .bool s]) (by simp [results, Tryz.results99, go_sem, z0, z1, z2, z3, z4]) rfl (HP'.out _ _ ⟨A', c', rfl, R.out, HU.out, B4.out⟩)
    · have H1 := Lib.hid h1
      have H2 := Lib.hid h2
      clear h1 h2
      have HE : Hid (∀ W, Calls Tryz.prog 124 #[.agg #[.int .u64 (v.a : Int), .int .u64 (v.b : Int), .int .u64 (v.c : Int)], .int .i64 2] W (EndPost W o)) := fun W => by
        have k := endAt_2 v.a v.b v.c W
        rw [← caret_2 H1.out H2.out, HO.out] at k
        exact k
      go_wp2_with fail
      refine (HE.out _).mono ?_
      rintro e w3 ⟨A', c', rfl, hr, hbu, hb3⟩
      have HU := Lib.hid hbu
      generalize verOf o = x at hr HU HP' ⊢
      generalize o.isSome = s at HP' ⊢
      have N2 := Lib.hid (L2.out.kept hb3 hz2)
      have B3 := Lib.hid (B1.out.trans (hb3.mono (by omega)))
      obtain ⟨hz3, hf, g0, g1, g2, g3, g4⟩ := N2.out
      have R := Lib.hid (hr.set5 g0 g1 g2 g3 g4 (by simp) (by simp) (by simp) (by simp) (by simp) (.int .u64 (x.a : Int)) (.int .u64 (x.b : Int)) (.int .u64 (x.c : Int)) (.slice A' x.pre.length c') (.slice none x.build.length 0))
      have B4 : Hid (Below w.heap.size w (set5 w3 (w.heap.size + 1) (.int .u64 (x.a : Int)) (.int .u64 (x.b : Int)) (.int .u64 (x.c : Int)) (.slice A' x.pre.length c') (.slice none x.build.length 0))) := (((((B3.out.setCell (by simp) _).setCell (by simp) _).setCell (by simp) _).setCell (by simp) _).setCell (by simp) _)
      have N3 := Lib.hid (N2.out.set5 (.int .u64 (x.a : Int)) (.int .u64 (x.b : Int)) (.int .u64 (x.c : Int)) (.slice A' x.pre.length c') (.slice none x.build.length 0))
      clear hr hb3
      unfold set5 at B4 N3
      go_wp2
      simp only [Exit.jump]
      generalize (((((w3.setCell ⟨w.heap.size + 1, 0, none⟩ (.int .u64 (x.a : Int))).setCell ⟨w.heap.size + 1, 1, none⟩ (.int .u64 (x.b : Int))).setCell ⟨w.heap.size + 1, 2, none⟩ (.int .u64 (x.c : Int))).setCell ⟨w.heap.size + 1, 3, none⟩ (.slice A' x.pre.length c')).setCell ⟨w.heap.size + 1, 4, none⟩ (.slice none x.build.length 0)) = w4 at R B4 N3 ⊢
      obtain ⟨_, _, z0, z1, z2, z3, z4⟩ := N3.out
      exact bodyPost_ret (v := .tuple #[.agg #[.int .u64 (x.a : Int), .int .u64 (x.b : Int), .int .u64 (x.c : Int), .slice A' x.pre.length c', .slice none x.build.length 0], .bool s]) (by simp [results, Tryz.results99, go_sem, z0, z1, z2, z3, z4]) rfl (HP'.out _ _ ⟨A', c', rfl, R.out, HU.out, B4.out⟩)
  · intro HP
    go_upto_region 1 with (fail)
    generalize ((w.alloc (.cells #[.int .u64 (v.a : Int), .int .u64 (v.b : Int), .int .u64 (v.c : Int), .slice A v.pre.length c, .slice B v.build.length d] 25)).alloc (.cells #[.int .u64 0, .int .u64 0, .int .u64 0, .slice none 0 0, .slice none 0 0] 25)) = W at HB0 K1 K2 ⊢
    obtain ⟨hz0, _, x0, x1, x2, x3, x4⟩ := K1.out
    obtain ⟨hz1, _, y0, y1, y2, y3, y4⟩ := K2.out
    go_wp2_with fail
    refine (coreOf_any _ _ _ _ _ _).mono ?_
    rintro e w2 ⟨rfl, hb2⟩
    have L2 := Lib.hid (K2.out.kept hb2 hz1)
    have B1 := Lib.hid (HB0.out.trans (hb2.mono (by omega)))
    have hz2 := L2.out.1
    have M2 := Lib.hid (L2.out.kept ((Below.refl w2.heap.size w2).alloc (Nat.le_refl _) (.cells #[.int .u64 (v.a : Int), .int .u64 (v.b : Int), .int .u64 (v.c : Int)] 147)) hz2)
    have M3 := Lib.hid (At3.new w2 147 (.int .u64 (v.a : Int)) (.int .u64 (v.b : Int)) (.int .u64 (v.c : Int)))
    have B2 : Hid (Below w.heap.size w (w2.alloc (.cells #[.int .u64 (v.a : Int), .int .u64 (v.b : Int), .int .u64 (v.c : Int)] 147))) := B1.out.alloc (by omega) _
    clear hb2 x0 x1 x2 x3 x4 y0 y1 y2 y3 y4
    go_wp2
    go_step3
    rename_i hK
    exact hK _ _ (HP.out _ _ ⟨0, w2.heap.size, _, _, _, _, _, _, _, _, _, _, _, _, _, _, _, _, _, B2.out, M2.out, M3.out, .inl rfl, rfl⟩)
end Go.Proofs.YtgfbflnhjpbceaaGreatDoor.Prec
