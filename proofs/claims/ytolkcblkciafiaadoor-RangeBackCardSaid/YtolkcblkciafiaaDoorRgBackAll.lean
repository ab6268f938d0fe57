/-
  The small functions of rangeexpr.Text and Good: ofVersion, bracketed, opens, within, ahead. Conditions: as each states.
  rangeexpr.mark: what a right range's text begins with. Conditions: the range's version is right, if it counts; the two tables read as they are written. (Made by wip/gen_rgtell.py.)
  rangeexpr.fits, good, Good say yes of a right range. Conditions: as each states. (Made by wip/gen_rgtell.py.)
  Memory of rangeexpr.Text: the levels of ranges whose expressions are being told, the builder beside them. Conditions: as each states.
  rangeexpr.Text of a right range is its text. Conditions: the range lies in memory that is there, it is right, it has at most 1000000 ranges, its text is at most 100000 bytes long; the two tables read as they are written. (Made by wip/gen_rgtext.py.)
  The law RangeBack answers true for any text, and writes nothing that was there. Conditions: the two tables read as they are written. (Made by wip/gen_rgbackwalk.py.)
  The table of ops as a row lists it: an array of strings that reads as the datum holds the datum's texts, cell for cell; so where the row's condition is met, the table of ops reads as it is written.
-/
import Derived.Test.YtolkcblkciafiaaDoorRgMem
import Derived.Deep.QuietTactic
import Derived.BigQuiet
import Derived.Deep.CutBlock
import Derived.Deep.DeepCutAuto
import Derived.Test.YtolkcblkciafiaaDoorRgOp
import Derived.Test.YtolkcblkciafiaaDoorRgVer
import Derived.Test.YtolkcblkciafiaaDoorSvText
import Derived.Deep.RegionHeld3
import Derived.Test.YtolkcblkciafiaaDoorRgBackA
import Derived.Test.YtolkcblkciafiaaDoorSvGood
import Derived.Laws.OwnMore
import Derived.OneCell
import Derived.StillTailTactics
import Derived.Lib.LaidTab
namespace Go.Proofs.YtolkcblkciafiaaDoor.Range
open Go.RowKit Num Ident Semver

theorem ofVersion_any (k : Int) (w : World) : Calls Tryd.prog 25 #[.int .i64 k] w fun e w' => e = .returned (.bool (ofVersion k)) ∧ w' = w := by
  unfold ofVersion
  go_enter Tryd.func25, Tryd.ntmps25
  by_cases h1 : 1 ≤ k
  · by_cases h2 : k ≤ 8
    · go_wp2; go_ret
      exact ⟨by simp [h1, h2], rfl⟩
    · go_wp2; go_ret
      exact ⟨by simp [h2], rfl⟩
  · go_wp2; go_ret
    exact ⟨by simp; omega, rfl⟩
theorem bracketed_any (o k : Int) (w : World) : Calls Tryd.prog 18 #[.int .i64 o, .int .i64 k] w fun e w' => e = .returned (.bool (bracketed o k)) ∧ w' = w := by
  unfold bracketed
  go_enter Tryd.func18, Tryd.ntmps18
  by_cases h1 : k = 10
  · go_wp2; go_ret
    exact ⟨by simp [h1], rfl⟩
  · by_cases h2 : k = 9
    · by_cases h3 : o = 10
      · go_wp2; go_ret
        exact ⟨by simp [h2, h3], rfl⟩
      · go_wp2; go_ret
        exact ⟨by simp [h2, h3], rfl⟩
    · go_wp2; go_ret
      exact ⟨by simp [h1, h2], rfl⟩
set_option maxRecDepth 100000 in
theorem opens_any (o k : Int) (w : World) : Calls Tryd.prog 28 #[.int .i64 o, .int .i64 k] w fun e w' => e = .returned (.int .i64 (opens o k : Int)) ∧ w' = w := by
  have HO : Hid (opens o k = (if o = 11 then 1 else 0) + (if bracketed o k = true then 1 else 0)) := rfl
  go_enter Tryd.func28, Tryd.ntmps28
  by_cases h1 : o = 11
  · subst h1
    go_wp2_with fail
    refine (bracketed_any 11 k _).mono ?_
    rintro e w' ⟨rfl, rfl⟩
    cases hb : bracketed 11 k with
    | true => go_wp2; go_ret; exact ⟨by rw [HO.out, hb]; rfl, rfl⟩
    | false => go_wp2; go_ret; exact ⟨by rw [HO.out, hb]; rfl, rfl⟩
  · go_wp2_with fail
    refine (bracketed_any o k _).mono ?_
    rintro e w' ⟨rfl, rfl⟩
    cases hb : bracketed o k with
    | true => go_wp2; go_ret; exact ⟨by rw [HO.out, hb, if_neg h1]; rfl, rfl⟩
    | false => go_wp2; go_ret; exact ⟨by rw [HO.out, hb, if_neg h1]; rfl, rfl⟩
set_option maxRecDepth 100000 in
/-- The ones of which a right range's text tells: all of them. -/
theorem within_any (b o : Nat) (x : RV) (w : World) (hc : CellsAt w b o x) (hn : x.n ≤ x.e) (hk : (x.kind = 9 ∨ x.kind = 10) ∨ x.kind = 11 ∧ x.n = 1 ∨ (x.kind ≠ 9 ∧ x.kind ≠ 10 ∧ x.kind ≠ 11) ∧ x.n = 0) :
    Calls Tryd.prog 16 #[.pointer (some ⟨b, o, none⟩)] w fun e w' => (∃ A c, e = .returned (.slice A x.n c) ∧ x.n ≤ c ∧ (0 < x.n → A = x.L)) ∧ Below w.heap.size w w' := by
  obtain ⟨x0, x1, x2, x3, x4, x5, x6⟩ := hc.cells
  obtain ⟨kind, v, A, c, B, d, L, n, e⟩ := x
  simp only at x0 x1 x2 x3 x4 x5 x6 hn hk ⊢
  go_enter Tryd.func16, Tryd.ntmps16
  rcases hk with (rfl | rfl) | ⟨rfl, rfl⟩ | ⟨⟨h1, h2, h3⟩, rfl⟩
  · go_wp2; go_ret
    exact ⟨⟨L, e, rfl, hn, fun _ => rfl⟩, Below.refl _ _⟩
  · go_wp2; go_ret
    exact ⟨⟨L, e, rfl, hn, fun _ => rfl⟩, Below.refl _ _⟩
  · go_upto_region 6 with (fail)
    go_region
    go_wp2; go_ret
    exact ⟨⟨L, e, rfl, hn, fun _ => rfl⟩, (Below.refl w.heap.size w).drew⟩
  · go_wp2; go_ret
    exact ⟨⟨none, 0, rfl, Nat.le_refl _, fun h => absurd h (Nat.lt_irrefl _)⟩, Below.refl _ _⟩
set_option maxRecDepth 100000 in
theorem ahead_any (g o : Nat) (b p : Nat) (outer k : Int) (i : Nat) (w : World) (h0 : w.cell? ⟨g, o, none⟩ = some (.pointer (some ⟨b, p, none⟩))) (h1 : w.cell? ⟨g, o + 1, none⟩ = some (.int .i64 (i : Int))) (h2 : w.cell? ⟨b, p, none⟩ = some (.int .i64 outer)) :
    Calls Tryd.prog 17 #[.pointer (some ⟨g, o, none⟩), .int .i64 k] w fun e w' => e = .returned (.string (mk (aheadR outer k i))) ∧ w' = w := by
  unfold aheadR
  go_enter Tryd.func17, Tryd.ntmps17
  by_cases a1 : outer = 11 ∧ k = 5
  · obtain ⟨rfl, rfl⟩ := a1
    go_wp2; go_ret
    exact ⟨rfl, rfl⟩
  · rw [if_neg a1]
    have a2 : outer = 11 → ¬ k = 5 := fun h h' => a1 ⟨h, h'⟩
    clear a1
    by_cases a3 : i = 0
    · subst a3
      by_cases a4 : outer = 11
      · have a5 := a2 a4
        go_wp2; go_ret
        exact ⟨rfl, rfl⟩
      · go_wp2; go_ret
        exact ⟨rfl, rfl⟩
    · rw [if_neg a3]
      have a3' : ¬ (i : Int) = 0 := by omega
      by_cases a4 : outer = 11
      · have a5 := a2 a4
        subst a4
        go_wp2; go_ret
        exact ⟨rfl, rfl⟩
      · by_cases a6 : outer = 10
        · subst a6
          go_wp2; go_ret
          exact ⟨rfl, rfl⟩
        · rw [if_neg a6]
          go_wp2; go_ret
          exact ⟨rfl, rfl⟩
end Go.Proofs.YtolkcblkciafiaaDoor.Range

namespace Go.Proofs.YtolkcblkciafiaaDoor.Range
open Go.RowKit Num Ident Semver
theorem good_short {v : Ver} (h : goodV v = true) : shortB v.pre = true ∧ shortB v.build = true := by
  unfold goodV at h
  rw [Bool.and_eq_true, Bool.and_eq_true] at h
  obtain ⟨_, h2, h3⟩ := h
  have b1 := goodFrom_bound _ _ h2
  have b2 := goodFrom_bound _ _ h3
  refine ⟨(shortB_iff _).2 ⟨?_, fun x hx => Nat.le_trans (b1.2 x hx) (by omega)⟩, (shortB_iff _).2 ⟨?_, fun x hx => Nat.le_trans (b2.2 x hx) (by omega)⟩⟩
  · by_cases e : v.pre = []
    · rw [e]; simp
    · have := b1.1 e; omega
  · by_cases e : v.build = []
    · rw [e]; simp
    · have := b2.1 e; omega
theorem mark_of {k : Int} (v : Ver) (h1 : 1 ≤ k) (h2 : k ≤ 8) : markR k v = ops.getD (k - 1).toNat [] ++ vtext v := by
  unfold markR ofVersion
  rw [if_neg (by omega), if_neg (by omega), if_neg (by omega), if_pos (by simp; omega)]
set_option maxRecDepth 100000 in
set_option maxHeartbeats 3200000 in
theorem mark_any (x : RV) (w : World) (hr1 : SRow w x.A x.v.pre.length x.v.pre) (hr2 : SRow w x.B x.v.build.length x.v.build) (hc1 : x.v.pre.length ≤ x.c) (hc2 : x.v.build.length ≤ x.d)
    (hk : x.kind = 0 ∨ (x.kind = 9 ∨ x.kind = 10) ∨ x.kind = 11 ∨ (1 ≤ x.kind ∧ x.kind ≤ 8 ∧ goodV x.v = true)) (hlen : (markR x.kind x.v).length ≤ 1000000) (ht : OpsTab w) (htab : Tab w) :
    Calls Tryd.prog 14 #[x.agg] w fun e w' => e = .returned (.string (mk (markR x.kind x.v))) ∧ Below w.heap.size w w' := by
  have HB : Hid (Below w.heap.size w (w.alloc (.cells #[.int .i64 x.kind, .int .u64 (x.v.a : Int), .int .u64 (x.v.b : Int), .int .u64 (x.v.c : Int), .slice x.A x.v.pre.length x.c, .slice x.B x.v.build.length x.d, .slice x.L x.n x.e] 29))) := (Below.refl _ _).alloc (Nat.le_refl _) _
  have HRA : Hid (RAt (w.alloc (.cells #[.int .i64 x.kind, .int .u64 (x.v.a : Int), .int .u64 (x.v.b : Int), .int .u64 (x.v.c : Int), .slice x.A x.v.pre.length x.c, .slice x.B x.v.build.length x.d, .slice x.L x.n x.e] 29)) w.heap.size x) := RAt.new w _ x
  have HT : Hid (OpsTab (w.alloc (.cells #[.int .i64 x.kind, .int .u64 (x.v.a : Int), .int .u64 (x.v.b : Int), .int .u64 (x.v.c : Int), .slice x.A x.v.pre.length x.c, .slice x.B x.v.build.length x.d, .slice x.L x.n x.e] 29))) := ht.keep (Keep.of_below HB.out)
  have HTX : Hid (goodV x.v = true → ∀ W, Below w.heap.size w W → Calls Tryd.prog 26 #[.agg #[.int .u64 (x.v.a : Int), .int .u64 (x.v.b : Int), .int .u64 (x.v.c : Int), .slice x.A x.v.pre.length x.c, .slice x.B x.v.build.length x.d]] W fun e w' => e = .returned (.string (mk (vtext x.v))) ∧ Below W.heap.size W w') := fun hg W hb => by
    have f := fit_good hg
    have s := good_short hg
    exact vtext_any x.v x.A x.c x.B x.d W f.a f.b f.c (hr1.kept hb) (hr2.kept hb) hc1 hc2 s.1 s.2 (htab.kept hb)
  clear hr1 hr2 hc1 hc2 ht htab
  unfold RV.agg
  go_enter Tryd.func14, Tryd.ntmps14
  go_upto_region 1 with (fail)
  generalize w.alloc (.cells #[.int .i64 x.kind, .int .u64 (x.v.a : Int), .int .u64 (x.v.b : Int), .int .u64 (x.v.c : Int), .slice x.A x.v.pre.length x.c, .slice x.B x.v.build.length x.d, .slice x.L x.n x.e] 29) = W at HB HRA HT ⊢
  obtain ⟨y1, y2, c0, c1, c2, c3, c4, c5, c6⟩ := HRA.out
  rcases hk with hk | (hk | hk) | hk | ⟨h1, h2, h3⟩
  · rw [hk] at c0
    have HM : Hid (markR x.kind x.v = [42]) := by rw [hk]; rfl
    clear hk
    go_wp2; go_ret
    exact ⟨by rw [HM.out]; rfl, HB.out⟩
  · rw [hk] at c0
    have HM : Hid (markR x.kind x.v = []) := by rw [hk]; rfl
    clear hk
    go_wp2; go_ret
    exact ⟨by rw [HM.out]; rfl, HB.out⟩
  · rw [hk] at c0
    have HM : Hid (markR x.kind x.v = []) := by rw [hk]; rfl
    clear hk
    go_wp2; go_ret
    exact ⟨by rw [HM.out]; rfl, HB.out⟩
  · rw [hk] at c0
    have HM : Hid (markR x.kind x.v = [33]) := by rw [hk]; rfl
    clear hk
    go_wp2; go_ret
    exact ⟨by rw [HM.out]; rfl, HB.out⟩
  · have HM := Lib.hid (mark_of x.v h1 h2)
    obtain ⟨k, hk⟩ : ∃ k : Nat, (x.kind - 1).toNat = k := ⟨_, rfl⟩
    have hk8 : k < 8 := by omega
    have hk1 : x.kind = (k : Int) + 1 := by omega
    have hw1 : IntKind.i64.wrap (x.kind - 1) = (k : Int) := by rw [IntKind.wrap_i64] <;> omega
    have n0 : ¬ x.kind = 0 := by omega
    have n9 : ¬ x.kind = 9 := by omega
    have n10 : ¬ x.kind = 10 := by omega
    have n11 : ¬ x.kind = 11 := by omega
    have HOV : Hid (ofVersion x.kind = true) := by unfold Hid ofVersion; simp; omega
    have HTX := Lib.hid (HTX.out h3)
    rw [hk] at HM
    have hk8i : (k : Int) < 8 := by omega
    have hsz : (mk (ops.getD k [])).size + (mk (vtext x.v)).size ≤ 9223372036854775807 := by
      rw [HM.out, List.length_append] at hlen
      rw [mk_size, mk_size]; omega
    clear hlen
    have q9 : (x.kind == 9) = false := by simp [n9]
    have q10 : (x.kind == 10) = false := by simp [n10]
    clear hk h1 h2 h3 hk1
    go_wp2_with fail
    refine (ofVersion_any x.kind W).mono ?_
    rintro e w' ⟨rfl, rfl⟩
    rw [HOV.out]
    go_upto_region 8 with (fail)
    have HBd : Hid (Below w.heap.size w w'.drew) := HB.out.drew
    have HRAd : Hid (RAt w'.drew w.heap.size x) := HRA.out
    have HTd : Hid (OpsTab w'.drew) := HT.out
    clear HB HRA HT
    refine wp_region_held_drew (S := fun w' => RAt w' w.heap.size x ∧ OpsTab w') (by kernel_rfl) ⟨HRAd.out, HTd.out⟩ (fun hHeld => ?_)
    refine wpAnyH_take (i := 0) (oi := { dst := some 24, op := Op.fieldAddr 29 (Operand.tmp 1) 0, type := 0, pos := "tell.go:57", after := #[], guard := none }) (v := .pointer (some ⟨w.heap.size, 0, none⟩)) rfl (by kernel_rfl) (by kernel_rfl) (by kernel_rfl) (fun _ _ _ h => h) (Or.inl ⟨by rfl, fun w' hS' => by go_simp⟩) (by assumption) ?_
    simp only [Act.put, List.setIfInBounds_toArray, List.set_cons_zero, List.set_cons_succ]
    refine wpAnyH_take (i := 1) (oi := { dst := some 25, op := Op.load 3 (Operand.tmp 24), type := 3, pos := "tell.go:57", after := #[{ on := 0, ground := Ground.data }], guard := none }) (v := .int .i64 x.kind) rfl (by kernel_rfl) (by kernel_rfl) (by kernel_rfl) (fun _ _ _ h => h) (Or.inl ⟨by rfl, fun w' hS' => by obtain ⟨y1, y2, c0, c1, c2, c3, c4, c5, c6⟩ := hS'.1; go_simp⟩) (by assumption) ?_
    simp only [Act.put, List.setIfInBounds_toArray, List.set_cons_zero, List.set_cons_succ]
    refine wpAnyH_take (i := 2) (oi := { dst := some 26, op := Op.binOp BinOp.sub 3 (Operand.tmp 25) (Operand.const (Value.int IntKind.i64 1)) 3, type := 3, pos := "tell.go:57", after := #[{ on := 1, ground := Ground.data }], guard := none }) (v := .int .i64 (k : Int)) rfl (by kernel_rfl) (by kernel_rfl) (by kernel_rfl) (fun _ _ _ h => h) (Or.inl ⟨by rfl, fun w' hS' => by go_simp⟩) (by assumption) ?_
    simp only [Act.put, List.setIfInBounds_toArray, List.set_cons_zero, List.set_cons_succ]
    refine wpAnyH_take (i := 3) (oi := { dst := some 27, op := Op.indexAddr 70 (Operand.global 0) (Operand.tmp 26), type := 0, pos := "tell.go:57", after := #[{ on := 2, ground := Ground.data }], guard := none }) (v := .pointer (some ⟨0, k, none⟩)) rfl (by kernel_rfl) (by kernel_rfl) (by kernel_rfl) (fun _ _ _ h => h) (Or.inl ⟨by rfl, fun w' hS' => by go_simp⟩) (by assumption) ?_
    simp only [Act.put, List.setIfInBounds_toArray, List.set_cons_zero, List.set_cons_succ]
    refine wpAnyH_take (i := 4) (oi := { dst := some 28, op := Op.load 9 (Operand.tmp 27), type := 9, pos := "tell.go:57", after := #[{ on := 3, ground := Ground.data }], guard := none }) (v := .string (mk (ops.getD k []))) rfl (by kernel_rfl) (by kernel_rfl) (by kernel_rfl) (fun _ _ _ h => h) (Or.inl ⟨by rfl, fun w' hS' => by have x4 := hS'.2 k hk8; go_simp⟩) (by assumption) ?_
    simp only [Act.put, List.setIfInBounds_toArray, List.set_cons_zero, List.set_cons_succ]
    refine wpAnyH_take (i := 5) (oi := { dst := some 29, op := Op.fieldAddr 29 (Operand.tmp 1) 1, type := 0, pos := "tell.go:57", after := #[], guard := none }) (v := .pointer (some ⟨w.heap.size, 1, none⟩)) rfl (by kernel_rfl) (by kernel_rfl) (by kernel_rfl) (fun _ _ _ h => h) (Or.inl ⟨by rfl, fun w' hS' => by go_simp⟩) (by assumption) ?_
    simp only [Act.put, List.setIfInBounds_toArray, List.set_cons_zero, List.set_cons_succ]
    refine wpAnyH_take (i := 6) (oi := { dst := some 30, op := Op.load 26 (Operand.tmp 29), type := 26, pos := "tell.go:57", after := #[{ on := 5, ground := Ground.data }], guard := none }) (v := .agg #[.int .u64 (x.v.a : Int), .int .u64 (x.v.b : Int), .int .u64 (x.v.c : Int), .slice x.A x.v.pre.length x.c, .slice x.B x.v.build.length x.d]) rfl (by kernel_rfl) (by kernel_rfl) (by kernel_rfl) (fun _ _ _ h => h) (Or.inl ⟨by rfl, fun w' hS' => by obtain ⟨y1, y2, c0, c1, c2, c3, c4, c5, c6⟩ := hS'.1; go_simp⟩) (by assumption) ?_
    simp only [Act.put, List.setIfInBounds_toArray, List.set_cons_zero, List.set_cons_succ]
    refine wpAnyH_ready (rs := [7]) (by kernel_rfl) (by simp) ?_
    refine AllReadyH.cons (o := { dst := some 31, op := Op.call { callee := Callee.value (Operand.func 26), args := #[Operand.tmp 30], argTypes := #[26] }, type := 9, pos := "tell.go:57", after := #[{ on := 6, ground := Ground.data }], guard := none }) rfl (fun K hK => ?_) AllReadyH.nil
    go_simp
    refine (HTX.out _ HBd.out).mono ?_
    rintro e wm1 ⟨rfl, hb⟩
    have HB2 := Lib.hid (HBd.out.trans (hb.mono HBd.out.size))
    have HRA1 : Hid (RAt wm1 w.heap.size x) := HRAd.out.kept hb HRAd.out.1
    have HT1 : Hid (OpsTab wm1) := HTd.out.keep (Keep.of_below hb)
    clear hb hHeld
    refine hK.out _ _ ⟨HRA1.out, HT1.out⟩ (fun hHeld => ?_)
    clear hK K
    try simp only [Act.put, List.setIfInBounds_toArray, List.set_cons_zero, List.set_cons_succ]
    refine wpAnyH_take (i := 8) (oi := { dst := some 32, op := Op.binOp BinOp.add 9 (Operand.tmp 28) (Operand.tmp 31) 9, type := 9, pos := "tell.go:57", after := #[{ on := 4, ground := Ground.data }, { on := 7, ground := Ground.data }], guard := none }) (v := .string (mk (ops.getD k []) ++ mk (vtext x.v))) rfl (by kernel_rfl) (by kernel_rfl) (by kernel_rfl) (fun _ _ _ h => h) (Or.inl ⟨by rfl, fun w' hS' => by go_simp; exact hsz⟩) (by assumption) ?_
    simp only [Act.put, List.setIfInBounds_toArray, List.set_cons_zero, List.set_cons_succ]
    refine wpAnyH_take (i := 9) (oi := { dst := some 2, op := Op.assign (Operand.tmp 32), type := 9, pos := "tell.go:57", after := #[{ on := 8, ground := Ground.data }, { on := 7, ground := Ground.chain }, { on := 0, ground := Ground.phase }, { on := 1, ground := Ground.phase }, { on := 2, ground := Ground.phase }, { on := 3, ground := Ground.phase }, { on := 4, ground := Ground.phase }, { on := 5, ground := Ground.phase }, { on := 6, ground := Ground.phase }, { on := 7, ground := Ground.phase }, { on := 8, ground := Ground.phase }], guard := none }) (v := .string (mk (ops.getD k []) ++ mk (vtext x.v))) rfl (by kernel_rfl) (by kernel_rfl) (by kernel_rfl) (fun _ _ _ h => h) (Or.inl ⟨by rfl, fun w' hS' => by go_simp⟩) (by assumption) ?_
    simp only [Act.put, List.setIfInBounds_toArray, List.set_cons_zero, List.set_cons_succ]
    refine wpAnyH_done (by kernel_rfl) ?_ _
    go_wp2
    go_ret
    exact ⟨by rw [HM.out, ← mk_cat]; rfl, HB2.out⟩
end Go.Proofs.YtolkcblkciafiaaDoor.Range

namespace Go.Proofs.YtolkcblkciafiaaDoor.Range
open Go.RowKit Num Ident Semver
theorem srow_none (w : World) (A : Option Addr) : SRow w A 0 [] := ⟨rfl, fun h => absurd h (Nat.lt_irrefl _)⟩
set_option maxRecDepth 100000 in
set_option maxHeartbeats 3200000 in
theorem fits_any (x : RV) (w : World) (hr1 : SRow w x.A x.v.pre.length x.v.pre) (hr2 : SRow w x.B x.v.build.length x.v.build) (hf : FitV x.v)
    (hk : (1 ≤ x.kind ∧ x.kind ≤ 8 ∧ goodV x.v = true ∧ x.n = 0) ∨ (x.v = noVer ∧ ((x.kind = 0 ∧ x.n = 0) ∨ ((x.kind = 9 ∨ x.kind = 10) ∧ 2 ≤ x.n) ∨ (x.kind = 11 ∧ x.n = 1)))) :
    Calls Tryd.prog 27 #[x.agg] w fun e w' => e = .returned (.bool true) ∧ Below w.heap.size w w' := by
  have HB : Hid (Below w.heap.size w (w.alloc (.cells #[.int .i64 x.kind, .int .u64 (x.v.a : Int), .int .u64 (x.v.b : Int), .int .u64 (x.v.c : Int), .slice x.A x.v.pre.length x.c, .slice x.B x.v.build.length x.d, .slice x.L x.n x.e] 29))) := (Below.refl _ _).alloc (Nat.le_refl _) _
  have HRA : Hid (RAt (w.alloc (.cells #[.int .i64 x.kind, .int .u64 (x.v.a : Int), .int .u64 (x.v.b : Int), .int .u64 (x.v.c : Int), .slice x.A x.v.pre.length x.c, .slice x.B x.v.build.length x.d, .slice x.L x.n x.e] 29)) w.heap.size x) := RAt.new w _ x
  have HR1 := Lib.hid (hr1.kept HB.out)
  have HR2 := Lib.hid (hr2.kept HB.out)
  have HF := Lib.hid hf
  clear hr1 hr2 hf
  unfold RV.agg
  go_enter Tryd.func27, Tryd.ntmps27
  go_upto_region 1 with (fail)
  generalize w.alloc (.cells #[.int .i64 x.kind, .int .u64 (x.v.a : Int), .int .u64 (x.v.b : Int), .int .u64 (x.v.c : Int), .slice x.A x.v.pre.length x.c, .slice x.B x.v.build.length x.d, .slice x.L x.n x.e] 29) = W at HB HRA HR1 HR2 ⊢
  obtain ⟨y1, y2, c0, c1, c2, c3, c4, c5, c6⟩ := HRA.out
  rcases hk with ⟨h1, h2, h3, h4⟩ | ⟨hv, hk⟩
  · have HOV : Hid (ofVersion x.kind = true) := by unfold Hid ofVersion; simp; omega
    have HG := Lib.hid h3
    clear h1 h2 h3
    go_wp2_with fail
    refine (ofVersion_any x.kind W).mono ?_
    rintro e w' ⟨rfl, rfl⟩
    rw [HOV.out]
    go_wp2_with fail
    refine (vgood_any x.v x.A x.c x.B x.d w' HR1.out HR2.out HF.out.pre HF.out.build HF.out.pres HF.out.builds).mono ?_
    rintro e W2 ⟨rfl, hb⟩
    rw [HG.out]
    have HB2 := Lib.hid (HB.out.trans (hb.mono HB.out.size))
    have HRA2 := Lib.hid (HRA.out.kept hb HRA.out.1)
    clear hb y1 y2 c0 c1 c2 c3 c4 c5 c6
    obtain ⟨y1, y2, c0, c1, c2, c3, c4, c5, c6⟩ := HRA2.out
    go_wp2; go_ret
    exact ⟨rfl, HB2.out⟩
  · have HOV : Hid (ofVersion x.kind = false) := by unfold Hid ofVersion; simp; omega
    have HS : Hid (sameV ⟨x.v.a, x.v.b, x.v.c, x.v.pre, x.v.build⟩ ⟨0, 0, 0, [], []⟩ = true) := by
      show sameV x.v noVer = true
      rw [hv]; exact sameV_self _
    clear hv
    go_wp2_with fail
    refine (ofVersion_any x.kind W).mono ?_
    rintro e w' ⟨rfl, rfl⟩
    rw [HOV.out]
    go_wp2_with fail
    refine (same_parts x.A x.v.pre.length x.c x.v.pre x.B x.v.build.length x.d x.v.build none 0 0 [] none 0 0 [] x.v.a x.v.b x.v.c 0 0 0 w' HR1.out HR2.out (srow_none _ _) (srow_none _ _) HF.out.pre HF.out.build (Nat.zero_le _) (Nat.zero_le _)).mono ?_
    rintro e W2 ⟨rfl, hb⟩
    rw [HS.out]
    have HB2 := Lib.hid (HB.out.trans (hb.mono HB.out.size))
    have HRA2 := Lib.hid (HRA.out.kept hb HRA.out.1)
    clear hb y1 y2 c0 c1 c2 c3 c4 c5 c6
    obtain ⟨y1, y2, c0, c1, c2, c3, c4, c5, c6⟩ := HRA2.out
    rcases hk with ⟨h1, h2⟩ | ⟨h1 | h1, h2⟩ | ⟨h1, h2⟩
    · rw [h1] at c0
      rw [h2] at c6
      clear h1 h2
      go_wp2; go_ret
      exact ⟨rfl, HB2.out⟩
    · rw [h1] at c0
      clear h1
      have h3 : (2 : Int) ≤ (x.n : Int) := by omega
      go_wp2; go_ret
      exact ⟨rfl, HB2.out⟩
    · rw [h1] at c0
      clear h1
      have h3 : (2 : Int) ≤ (x.n : Int) := by omega
      go_wp2; go_ret
      exact ⟨rfl, HB2.out⟩
    · rw [h1] at c0
      rw [h2] at c6
      clear h1 h2
      go_wp2; go_ret
      exact ⟨rfl, HB2.out⟩
theorem wtL_len : ∀ l : List Rng, l.length ≤ wtL l
  | [] => Nat.le_refl _
  | r :: l => by rw [wtL_cons, wt_eq, List.length_cons]; have := wtL_len l; omega
theorem wt_mem {x : Rng} : ∀ {l : List Rng}, x ∈ l → wt x ≤ wtL l
  | [], h => by cases h
  | y :: l, h => by
    rw [wtL_cons]
    rcases List.mem_cons.1 h with rfl | h
    · omega
    · have := wt_mem h; omega
/-- What a right range in memory is, field by field. -/
theorem right_at {w : World} {S : Nat → Prop} {r : Rng} {x : RV} {d : Nat} (hx : Lies w S r x) (hg : goodR r d = true) : d ≤ 64 ∧ goodL r.kind r.subs d = true ∧ r.subs.length = x.n ∧ r.kind = x.kind ∧
    ((1 ≤ x.kind ∧ x.kind ≤ 8 ∧ goodV x.v = true ∧ x.n = 0) ∨ (x.v = noVer ∧ ((x.kind = 0 ∧ x.n = 0) ∨ ((x.kind = 9 ∨ x.kind = 10) ∧ 2 ≤ x.n) ∨ (x.kind = 11 ∧ x.n = 1)))) := by
  have hs := hx.says
  obtain ⟨f, hl, _, _⟩ := hs.subs
  have hk := hs.kind
  have hv := hs.ver
  obtain ⟨kind, v, l⟩ := r
  obtain ⟨h1, h2, h3⟩ := good_cases hg
  simp only [Rng.kind, Rng.ver, Rng.subs] at hl hk hv ⊢
  subst hk; subst hv
  refine ⟨h1, h2, hl, rfl, ?_⟩
  rcases h3 with ⟨a, b, c, rfl⟩ | ⟨a, ⟨b, rfl⟩ | ⟨b, c⟩ | ⟨b, y, rfl⟩⟩
  · exact .inl ⟨a, b, c, hl.symm⟩
  · exact .inr ⟨a, .inl ⟨b, hl.symm⟩⟩
  · exact .inr ⟨a, .inr (.inl ⟨b, hl ▸ c⟩)⟩
  · exact .inr ⟨a, .inr (.inr ⟨b, hl.symm⟩)⟩
set_option maxRecDepth 100000 in
set_option maxHeartbeats 3200000 in
theorem good_any : ∀ (m : Nat) (r : Rng) (x : RV) (B d : Nat) (w : World), wt r ≤ m → m ≤ 4000000 → Lies w (LtB B) r x → B ≤ w.heap.size → goodR r d = true →
    Calls Tryd.prog 19 #[x.agg, .int .i64 (d : Int)] w fun e w' => e = .returned (.bool true) ∧ Below w.heap.size w w'
  | 0, r, x, B, d, w, hm, _, hx, hB, hg => by rw [wt_eq] at hm; omega
  | m + 1, r, x, B, d, w, hm, hM, hx, hB, hg => by
    have IH := Lib.hid (fun r x d w => good_any m r x B d w)
    have hs := hx.says
    obtain ⟨hd, hgl, hln, hrk, hk⟩ := right_at hx hg
    have HFits := Lib.hid (fun W (hb : Below w.heap.size w W) => fits_any x W (hs.pre.kept hb) (hs.build.kept hb) hs.fit hk)
    have HB : Hid (Below w.heap.size w (w.alloc (.cells #[.int .i64 x.kind, .int .u64 (x.v.a : Int), .int .u64 (x.v.b : Int), .int .u64 (x.v.c : Int), .slice x.A x.v.pre.length x.c, .slice x.B x.v.build.length x.d, .slice x.L x.n x.e] 29))) := (Below.refl _ _).alloc (Nat.le_refl _) _
    have HRA : Hid (RAt (w.alloc (.cells #[.int .i64 x.kind, .int .u64 (x.v.a : Int), .int .u64 (x.v.b : Int), .int .u64 (x.v.c : Int), .slice x.A x.v.pre.length x.c, .slice x.B x.v.build.length x.d, .slice x.L x.n x.e] 29)) w.heap.size x) := RAt.new w _ x
    have HL := Lib.hid (hx.keep (KeepS.of_below (S := LtB B) HB.out))
    have HG := Lib.hid hgl
    rw [wt_eq] at hm
    rw [hrk] at HG
    have hxn : x.n ≤ 4000000 := by have := wtL_len r.subs; omega
    have hd64 : ¬ (64 : Int) < (d : Int) := by omega
    clear hs hk hx hg hgl
    unfold RV.agg
    go_enter Tryd.func19, Tryd.ntmps19
    go_upto_region 1 with (fail)
    generalize w.alloc (.cells #[.int .i64 x.kind, .int .u64 (x.v.a : Int), .int .u64 (x.v.b : Int), .int .u64 (x.v.c : Int), .slice x.A x.v.pre.length x.c, .slice x.B x.v.build.length x.d, .slice x.L x.n x.e] 29) = W at HB HRA HL ⊢
    obtain ⟨y1, y2, c0, c1, c2, c3, c4, c5, c6⟩ := HRA.out
    go_wp2_with fail
    refine (HFits.out W HB.out).mono ?_
    rintro e W2 ⟨rfl, hb⟩
    have HB2 := Lib.hid (HB.out.trans (hb.mono HB.out.size))
    have HRA2 := Lib.hid (HRA.out.kept hb HRA.out.1)
    have HL2 := Lib.hid (HL.out.keep (KeepS.of_below (S := LtB B) hb))
    have hB2 : B ≤ W2.heap.size := Nat.le_trans hB HB2.out.size
    clear hb y1 y2 c0 c1 c2 c3 c4 c5 c6 HB HRA HL HFits
    obtain ⟨y1, y2, c0, c1, c2, c3, c4, c5, c6⟩ := HRA2.out
    go_wp2
    go_loopw [4, 6, 17] (fun rv _ iv W' => rv = .bool false ∧ ∃ k : Nat, k ≤ x.n ∧ iv = .int .i64 (k : Int) ∧ Hid (Below W2.heap.size W2 W')) (fun _ _ iv _ => x.n - (intOf iv).toNat)
    case atStart => exact ⟨rfl, 0, Nat.zero_le _, rfl, Below.refl _ _⟩
    case round =>
      obtain ⟨rfl, k, hk, rfl, HB3⟩ := hrel
      by_cases hlt : k < x.n
      · obtain ⟨b, o, c, hLe, hSb, hcl, hcy⟩ := HL2.out.says.subs.one hlt
        have hmem : r.subs.getD k noRng ∈ r.subs := by
          rw [List.getD_eq_getElem?_getD, List.getElem?_eq_getElem (by omega)]; exact List.getElem_mem _
        have hwt : wt (r.subs.getD k noRng) ≤ m := by have := wt_mem hmem; omega
        have hgd := goodL_mem HG.out hmem
        rw [hcy.says.kind] at hgd
        have hd2 : d + opens x.kind c.kind ≤ 64 := (right_at hcy hgd).1
        have hoi : IntKind.i64.wrap ((d : Int) + (opens x.kind c.kind : Int)) = ((d + opens x.kind c.kind : Nat) : Int) := by rw [IntKind.wrap_i64] <;> omega
        generalize r.subs.getD k noRng = q at hcy hgd hwt
        have hcw := (hcl.keep (KeepS.of_below (S := LtB B) HB3.out) hSb).cells
        obtain ⟨e0, e1, e2, e3, e4, e5, e6⟩ := hcw
        have HBA : Hid (Below W2.heap.size W2 ((wr.alloc (.cells #[.int .i64 c.kind, .int .u64 (c.v.a : Int), .int .u64 (c.v.b : Int), .int .u64 (c.v.c : Int), .slice c.A c.v.pre.length c.c, .slice c.B c.v.build.length c.d, .slice c.L c.n c.e] 29)).drew)) := (HB3.out.alloc HB3.out.size _).drew
        have HXd : Hid (RAt ((wr.alloc (.cells #[.int .i64 c.kind, .int .u64 (c.v.a : Int), .int .u64 (c.v.b : Int), .int .u64 (c.v.c : Int), .slice c.A c.v.pre.length c.c, .slice c.B c.v.build.length c.d, .slice c.L c.n c.e] 29)).drew) w.heap.size x) := HRA2.out.kept HBA.out HRA2.out.1
        have HCd : Hid (RAt ((wr.alloc (.cells #[.int .i64 c.kind, .int .u64 (c.v.a : Int), .int .u64 (c.v.b : Int), .int .u64 (c.v.c : Int), .slice c.A c.v.pre.length c.c, .slice c.B c.v.build.length c.d, .slice c.L c.n c.e] 29)).drew) wr.heap.size c) := by have h := RAt.new wr 29 c; exact h
        have HLc : Hid (Lies ((wr.alloc (.cells #[.int .i64 c.kind, .int .u64 (c.v.a : Int), .int .u64 (c.v.b : Int), .int .u64 (c.v.c : Int), .slice c.A c.v.pre.length c.c, .slice c.B c.v.build.length c.d, .slice c.L c.n c.e] 29)).drew) (LtB B) q c) := hcy.keep (KeepS.of_below (S := LtB B) HBA.out)
        have HGc := Lib.hid hgd
        have hBA : B ≤ ((wr.alloc (.cells #[.int .i64 c.kind, .int .u64 (c.v.a : Int), .int .u64 (c.v.b : Int), .int .u64 (c.v.c : Int), .slice c.A c.v.pre.length c.c, .slice c.B c.v.build.length c.d, .slice c.L c.n c.e] 29)).drew).heap.size := Nat.le_trans hB2 HBA.out.size
        rw [hLe]
        clear hcl hcy hmem hgd
        go_upto_region 6 with (fail)
        clear e0 e1 e2 e3 e4 e5 e6 c0 c1 c2 c3 c4 c5 c6
        refine wp_region_held_drew (S := fun w' => RAt w' w.heap.size x ∧ RAt w' wr.heap.size c) (by kernel_rfl) ⟨HXd.out, HCd.out⟩ (fun hHeld => ?_)
        refine wpAnyH_take (i := 0) (oi := { dst := some 21, op := Op.load 29 (Operand.tmp 6), type := 29, pos := "tell.go:108", after := #[], guard := none }) (v := .agg #[.int .i64 c.kind, .int .u64 (c.v.a : Int), .int .u64 (c.v.b : Int), .int .u64 (c.v.c : Int), .slice c.A c.v.pre.length c.c, .slice c.B c.v.build.length c.d, .slice c.L c.n c.e]) rfl (by kernel_rfl) (by kernel_rfl) (by kernel_rfl) (fun _ _ _ h => h) (Or.inl ⟨by rfl, fun w' hS' => by obtain ⟨y1, y2, c0, c1, c2, c3, c4, c5, c6⟩ := hS'.2; go_simp⟩) (by assumption) ?_
        simp only [Act.put, List.setIfInBounds_toArray, List.set_cons_zero, List.set_cons_succ]
        refine wpAnyH_take (i := 1) (oi := { dst := some 22, op := Op.move (Operand.tmp 1), type := 3, pos := "tell.go:108", after := #[], guard := none }) (v := .int .i64 (d : Int)) rfl (by kernel_rfl) (by kernel_rfl) (by kernel_rfl) (fun _ _ _ h => h) (Or.inl ⟨by rfl, fun w' hS' => by go_simp⟩) (by assumption) ?_
        simp only [Act.put, List.setIfInBounds_toArray, List.set_cons_zero, List.set_cons_succ]
        refine wpAnyH_take (i := 2) (oi := { dst := some 23, op := Op.fieldAddr 29 (Operand.tmp 2) 0, type := 0, pos := "tell.go:108", after := #[], guard := none }) (v := .pointer (some ⟨w.heap.size, 0, none⟩)) rfl (by kernel_rfl) (by kernel_rfl) (by kernel_rfl) (fun _ _ _ h => h) (Or.inl ⟨by rfl, fun w' hS' => by go_simp⟩) (by assumption) ?_
        simp only [Act.put, List.setIfInBounds_toArray, List.set_cons_zero, List.set_cons_succ]
        refine wpAnyH_take (i := 3) (oi := { dst := some 24, op := Op.load 3 (Operand.tmp 23), type := 3, pos := "tell.go:108", after := #[{ on := 2, ground := Ground.data }], guard := none }) (v := .int .i64 x.kind) rfl (by kernel_rfl) (by kernel_rfl) (by kernel_rfl) (fun _ _ _ h => h) (Or.inl ⟨by rfl, fun w' hS' => by obtain ⟨y1, y2, c0, c1, c2, c3, c4, c5, c6⟩ := hS'.1; go_simp⟩) (by assumption) ?_
        simp only [Act.put, List.setIfInBounds_toArray, List.set_cons_zero, List.set_cons_succ]
        refine wpAnyH_take (i := 4) (oi := { dst := some 25, op := Op.fieldAddr 29 (Operand.tmp 6) 0, type := 0, pos := "tell.go:108", after := #[], guard := none }) (v := .pointer (some ⟨wr.heap.size, 0, none⟩)) rfl (by kernel_rfl) (by kernel_rfl) (by kernel_rfl) (fun _ _ _ h => h) (Or.inl ⟨by rfl, fun w' hS' => by go_simp⟩) (by assumption) ?_
        simp only [Act.put, List.setIfInBounds_toArray, List.set_cons_zero, List.set_cons_succ]
        refine wpAnyH_take (i := 5) (oi := { dst := some 26, op := Op.load 3 (Operand.tmp 25), type := 3, pos := "tell.go:108", after := #[{ on := 4, ground := Ground.data }], guard := none }) (v := .int .i64 c.kind) rfl (by kernel_rfl) (by kernel_rfl) (by kernel_rfl) (fun _ _ _ h => h) (Or.inl ⟨by rfl, fun w' hS' => by obtain ⟨y1, y2, c0, c1, c2, c3, c4, c5, c6⟩ := hS'.2; go_simp⟩) (by assumption) ?_
        simp only [Act.put, List.setIfInBounds_toArray, List.set_cons_zero, List.set_cons_succ]
        refine wpAnyH_ready (rs := [6]) (by kernel_rfl) (by simp) ?_
        refine AllReadyH.cons (o := { dst := some 27, op := Op.call { callee := Callee.value (Operand.func 28), args := #[Operand.tmp 24, Operand.tmp 26], argTypes := #[3, 3] }, type := 3, pos := "tell.go:108", after := #[{ on := 3, ground := Ground.data }, { on := 5, ground := Ground.data }], guard := none }) rfl (fun K hK => ?_) AllReadyH.nil
        go_simp
        refine (opens_any x.kind c.kind _).mono ?_
        rintro e wg1 ⟨rfl, rfl⟩
        have hb := True.intro
        clear hb hHeld
        refine hK.out _ _ ⟨HXd.out, HCd.out⟩ (fun hHeld => ?_)
        clear hK K
        try simp only [Act.put, List.setIfInBounds_toArray, List.set_cons_zero, List.set_cons_succ]
        refine wpAnyH_take (i := 7) (oi := { dst := some 28, op := Op.binOp BinOp.add 3 (Operand.tmp 22) (Operand.tmp 27) 3, type := 3, pos := "tell.go:108", after := #[{ on := 1, ground := Ground.data }, { on := 6, ground := Ground.data }], guard := none }) (v := .int .i64 ((d + opens x.kind c.kind : Nat) : Int)) rfl (by kernel_rfl) (by kernel_rfl) (by kernel_rfl) (fun _ _ _ h => h) (Or.inl ⟨by rfl, fun w' hS' => by go_simp⟩) (by assumption) ?_
        simp only [Act.put, List.setIfInBounds_toArray, List.set_cons_zero, List.set_cons_succ]
        refine wpAnyH_ready (rs := [8]) (by kernel_rfl) (by simp) ?_
        refine AllReadyH.cons (o := { dst := some 29, op := Op.call { callee := Callee.value (Operand.func 19), args := #[Operand.tmp 21, Operand.tmp 28], argTypes := #[29, 3] }, type := 4, pos := "tell.go:108", after := #[{ on := 0, ground := Ground.data }, { on := 7, ground := Ground.data }, { on := 6, ground := Ground.chain }], guard := none }) rfl (fun K hK => ?_) AllReadyH.nil
        go_simp
        refine (IH.out q c (d + opens x.kind c.kind) _ hwt (by omega) HLc.out hBA HGc.out).mono ?_
        rintro e wg2 ⟨rfl, hb⟩
        have hbk := hb
        have HB5 := Lib.hid (HBA.out.trans (hb.mono HBA.out.size))
        clear hb hHeld
        refine hK.out _ _ ⟨HXd.out.kept hbk HXd.out.1, HCd.out.kept hbk HCd.out.1⟩ (fun hHeld => ?_)
        clear hK K
        try simp only [Act.put, List.setIfInBounds_toArray, List.set_cons_zero, List.set_cons_succ]
        refine wpAnyH_take (i := 9) (oi := { dst := some 30, op := Op.unOp UnOp.not 4 (Operand.tmp 29), type := 4, pos := "tell.go:108", after := #[{ on := 8, ground := Ground.data }], guard := none }) (v := .bool false) rfl (by kernel_rfl) (by kernel_rfl) (by kernel_rfl) (fun _ _ _ h => h) (Or.inl ⟨by rfl, fun w' hS' => by go_simp⟩) (by assumption) ?_
        simp only [Act.put, List.setIfInBounds_toArray, List.set_cons_zero, List.set_cons_succ]
        refine wpAnyH_done (by kernel_rfl) ?_ _
        go_wp2
        exact ⟨⟨rfl, k + 1, by omega, by go_num, HB5.out⟩, by simp [intOf]; omega⟩

      · obtain rfl : k = x.n := by omega
        clear c0 c1 c2 c3 c4 c5 c6
        go_wp2
        go_ret
        exact ⟨rfl, HB2.out.trans (HB3.out.mono HB2.out.size)⟩
set_option maxRecDepth 100000 in
set_option maxHeartbeats 3200000 in
theorem goodAll_any (r : Rng) (x : RV) (B : Nat) (w : World) (hm : wt r ≤ 4000000) (hx : Lies w (LtB B) r x) (hB : B ≤ w.heap.size) (hg : goodR r 0 = true) :
    Calls Tryd.prog 10 #[x.agg] w fun e w' => e = .returned (.bool true) ∧ Below w.heap.size w w' := by
  have HB : Hid (Below w.heap.size w (w.alloc (.cells #[.int .i64 x.kind, .int .u64 (x.v.a : Int), .int .u64 (x.v.b : Int), .int .u64 (x.v.c : Int), .slice x.A x.v.pre.length x.c, .slice x.B x.v.build.length x.d, .slice x.L x.n x.e] 29))) := (Below.refl _ _).alloc (Nat.le_refl _) _
  have HRA : Hid (RAt (w.alloc (.cells #[.int .i64 x.kind, .int .u64 (x.v.a : Int), .int .u64 (x.v.b : Int), .int .u64 (x.v.c : Int), .slice x.A x.v.pre.length x.c, .slice x.B x.v.build.length x.d, .slice x.L x.n x.e] 29)) w.heap.size x) := RAt.new w _ x
  have HL := Lib.hid (hx.keep (KeepS.of_below (S := LtB B) HB.out))
  have HG := Lib.hid (fun W h1 h2 => good_any 4000000 r x B 0 W hm (Nat.le_refl _) h1 h2 hg)
  have hB2 : B ≤ (w.alloc (.cells #[.int .i64 x.kind, .int .u64 (x.v.a : Int), .int .u64 (x.v.b : Int), .int .u64 (x.v.c : Int), .slice x.A x.v.pre.length x.c, .slice x.B x.v.build.length x.d, .slice x.L x.n x.e] 29)).heap.size := Nat.le_trans hB HB.out.size
  clear hx hg
  unfold RV.agg
  go_enter Tryd.func10, Tryd.ntmps10
  go_upto_region 1 with (fail)
  generalize w.alloc (.cells #[.int .i64 x.kind, .int .u64 (x.v.a : Int), .int .u64 (x.v.b : Int), .int .u64 (x.v.c : Int), .slice x.A x.v.pre.length x.c, .slice x.B x.v.build.length x.d, .slice x.L x.n x.e] 29) = W at HB HRA HL hB2 ⊢
  obtain ⟨y1, y2, c0, c1, c2, c3, c4, c5, c6⟩ := HRA.out
  go_wp2_with fail
  refine (HG.out W HL.out hB2).mono ?_
  rintro e W2 ⟨rfl, hb⟩
  have HB2 := Lib.hid (HB.out.trans (hb.mono HB.out.size))
  clear hb
  go_wp2
  go_ret
  exact ⟨rfl, HB2.out⟩
end Go.Proofs.YtolkcblkciafiaaDoor.Range

namespace Go.Proofs.YtolkcblkciafiaaDoor.Range
open Go.RowKit Num Ident Semver

/-- A level: its range and where it lies, how deep it may stand, how many of its ones are told, what stands behind the last one. -/
structure Lv where
  b : Nat
  o : Nat
  r : Rng
  x : RV
  d : Nat
  told : Nat
  e : List UInt8
instance : Inhabited Lv := ⟨⟨0, 0, noRng, default, 0, 0, []⟩⟩
def Lv.vals (y : Lv) : List Value := [.pointer (some ⟨y.b, y.o, none⟩), .int .i64 (y.told : Int), .string (Ident.mk y.e)]
theorem lv_len (y : Lv) : y.vals.length = 3 := rfl
theorem lv_one (y : Lv) : ∀ u ∈ y.vals, u.oneCell' = true := by
  intro u hu; simp only [Lv.vals, List.mem_cons, List.mem_nil_iff, or_false] at hu
  rcases hu with rfl | rfl | rfl <;> rfl
structure LvOk (W : World) (B : Nat) (y : Lv) : Prop where
  cells : CellsAt W y.b y.o y.x
  lt : y.b < B
  lies : Lies W (LtB B) y.r y.x
  good : goodR y.r y.d = true
  told : y.told ≤ y.r.subs.length
  few : wt y.r ≤ 4000000
theorem LvOk.kept {W W' : World} {B : Nat} {y : Lv} (h : LvOk W B y) (k : KeepS (LtB B) W W') : LvOk W' B y := ⟨h.cells.keep k h.lt, h.lt, h.lies.keep k, h.good, h.told, h.few⟩
/-- What is still to be told of a level. -/
def lvRest (y : Lv) : List UInt8 := textL y.r.kind y.r.subs.length (y.r.subs.drop y.told) y.told ++ y.e
def restT : List Lv → List UInt8
  | [] => []
  | y :: T => restT T ++ lvRest y
theorem restT_more : ∀ (T : List Lv) (y : Lv), restT (T ++ [y]) = lvRest y ++ restT T
  | [], y => by simp [restT]
  | z :: T, y => by rw [List.cons_append, restT, restT_more T y, restT, List.append_assoc]
def lvW (y : Lv) : Nat := 2 * wtL (y.r.subs.drop y.told) + 1
def lsum : List Lv → Nat
  | [] => 0
  | y :: T => lvW y + lsum T
theorem lsum_more : ∀ (T : List Lv) (y : Lv), lsum (T ++ [y]) = lsum T + lvW y
  | [], y => by simp [lsum]
  | z :: T, y => by rw [List.cons_append, lsum, lsum_more T y, lsum]; omega
theorem lsum_len : ∀ T : List Lv, T.length ≤ lsum T
  | [] => Nat.le_refl _
  | y :: T => by rw [List.length_cons, lsum]; have := lsum_len T; unfold lvW; omega
theorem most_good {r : Rng} {d : Nat} (h : goodR r d = true) : most r.kind r.subs.length = r.subs.length := by
  obtain ⟨kind, v, l⟩ := r
  obtain ⟨_, _, h⟩ := good_cases h
  simp only [Rng.kind, Rng.subs]
  unfold most
  rcases h with ⟨h1, h2, _, rfl⟩ | ⟨_, ⟨rfl, rfl⟩ | ⟨h1, _⟩ | ⟨rfl, y, rfl⟩⟩
  · simp
  · simp
  · rw [if_pos h1]
  · simp
theorem text_good {r : Rng} {d : Nat} (h : goodR r d = true) : textR r = markR r.kind r.ver ++ textL r.kind r.subs.length r.subs 0 := by
  have := most_good h
  obtain ⟨kind, v, l⟩ := r
  rw [textR_eq]
  simp only [Rng.kind, Rng.ver, Rng.subs] at this ⊢
  rw [this]
/-- A level's next one: what is told of it, and what is left. -/
theorem lvRest_next (y : Lv) (h : y.told < y.r.subs.length) (b o d : Nat) (x : RV) (hg : goodR (y.r.subs.getD y.told noRng) d = true) :
    lvRest y = aheadR y.r.kind (y.r.subs.getD y.told noRng).kind y.told ++ (openR y.r.kind (y.r.subs.getD y.told noRng).kind ++ (markR (y.r.subs.getD y.told noRng).kind (y.r.subs.getD y.told noRng).ver ++ (lvRest ⟨b, o, y.r.subs.getD y.told noRng, x, d, 0, shutR y.r.kind (y.r.subs.getD y.told noRng).kind⟩ ++ lvRest { y with told := y.told + 1 }))) := by
  have e : y.r.subs.drop y.told = y.r.subs.getD y.told noRng :: y.r.subs.drop (y.told + 1) := by
    rw [List.drop_eq_getElem_cons h]
    simp [List.getD, List.getElem?_eq_getElem h]
  unfold lvRest
  rw [e, textL_cons, if_pos h, text_good hg, List.drop_zero]
  simp only [List.append_assoc]
theorem lvW_next (y : Lv) (h : y.told < y.r.subs.length) (b o d : Nat) (x : RV) (e : List UInt8) :
    lvW ⟨b, o, y.r.subs.getD y.told noRng, x, d, 0, e⟩ + lvW { y with told := y.told + 1 } < lvW y := by
  have hw := wtL_drop y.r.subs y.told h
  unfold lvW
  simp only [List.drop_zero]
  omega
theorem bld_block {W : World} {B b : Nat} {l : List UInt8} (h : Bld W B b l) : ∃ c, W.heap[b]? = some (.cells c 45 (0, 0)) := by
  rcases h with ⟨_, v, h, _⟩ | ⟨_, v, h, _⟩ <;> exact ⟨_, h⟩
theorem own_kind {w : World} {B : Nat} {e : TypeId} {size : Nat} {v : Value} {n : Nat} {xs : List Value} (h : w.ownsRow B e size v n xs) : ∀ g, v.ownBlock = some g → ∃ c, w.heap[g]? = some (.cells c e (0, 0)) := by
  intro g hg
  rcases h.2 with ⟨rfl, _⟩ | ⟨g', cap, cur, rfl, _, hgg, _⟩
  · simp [Value.ownBlock] at hg
  · simp [Value.ownBlock] at hg
    subst hg
    exact ⟨cur, hgg⟩
theorem own_wrote {W W' : World} {B C b k n : Nat} {v : Value} {xs : List Value} {l l' : List UInt8} (h : W.ownsRow C 52 k v n xs) (hb : Bld W B b l) (hw : Wrote W B b l' W') : W'.ownsRow C 52 k v n xs := by
  obtain ⟨_, _, hk⟩ := hw
  obtain ⟨c0, hc0⟩ := bld_block hb
  refine ⟨h.1, ?_⟩
  rcases h.2 with h2 | ⟨g, cap, cur, hv, hg, hh, r⟩
  · exact .inl h2
  · refine .inr ⟨g, cap, cur, hv, hg, hk g _ hh (fun e => ?_) (fun c fz e => ?_), r⟩
    · injection e with e
      subst e
      rw [hh] at hc0
      injection hc0 with hc0
      injection hc0 with _ e _
      exact absurd e (by decide)
    · injection e with _ e
      exact absurd e (by decide)
theorem atF_grown {W W' : World} {B C b k n : Nat} {p v : Value} {xs bs : List Value} (h : Lib.BuilderAtF 45 5 B b p bs W) (ho : W.ownsRow C 52 k v n xs) (hg : W.grownBy W' v.ownBlock) : Lib.BuilderAtF 45 5 B b p bs W' := by
  obtain ⟨h1, u, h2, h3, h4⟩ := h
  have lt : ∀ k o, W.heap[k]? = some o → k < W.heap.size := fun k o hk => (Array.getElem?_eq_some_iff.1 hk).1
  refine ⟨h1, u, (hg.block b (lt b _ h2) fun e => ?_).trans h2, ⟨h3.1, ?_⟩, h4⟩
  · obtain ⟨c, hc⟩ := own_kind ho b e.symm
    rw [h2] at hc
    injection hc with hc
    injection hc with _ e _
    exact absurd e (by decide)
  · rcases h3.2 with h5 | ⟨g, cap, cur, fz, e1, e2, e3, e4⟩
    · exact .inl h5
    · refine .inr ⟨g, cap, cur, fz, e1, e2, (hg.block g (lt g _ e3) fun e => ?_).trans e3, e4⟩
      obtain ⟨c, hc⟩ := own_kind ho g e.symm
      rw [e3] at hc
      injection hc with hc
      injection hc with _ e _
      exact absurd e (by decide)
theorem bld_grown {W W' : World} {B C b k n : Nat} {v : Value} {xs : List Value} {l : List UInt8} (h : Bld W B b l) (ho : W.ownsRow C 52 k v n xs) (hg : W.grownBy W' v.ownBlock) : Bld W' B b l :=
  h.elim (fun x => .inl (atF_grown x ho hg)) (fun x => .inr (atF_grown x ho hg))
/-- The levels, and the builder with what has been told. -/
structure TxW (base : Nat) (W : World) (v : Value) (T : List Lv) (bs : List UInt8) : Prop where
  own : W.ownsRow (base + 2) 52 3 v T.length (T.flatMap Lv.vals)
  bld : Bld W (base + 1) (base + 1) bs
  ok : ∀ y ∈ T, LvOk W (base + 1) y
  sz : base + 2 ≤ W.heap.size
theorem TxW.below {base : Nat} {W W' : World} {v : Value} {T : List Lv} {bs : List UInt8} (h : TxW base W v T bs) (hb : Below W.heap.size W W') : TxW base W' v T bs :=
  ⟨own_below h.own hb, h.bld.kept hb, fun y hy => (h.ok y hy).kept (KeepS.of_below hb), Nat.le_trans h.sz hb.size⟩
theorem TxW.wrote {base : Nat} {W W' : World} {v : Value} {T : List Lv} {bs bs' : List UInt8} (h : TxW base W v T bs) (hw : Wrote W (base + 1) (base + 1) bs' W') : TxW base W' v T bs' :=
  ⟨own_wrote h.own h.bld hw, hw.1, fun y hy => (h.ok y hy).kept (KeepS.lt hw.2.1), Nat.le_trans h.sz hw.2.1.size⟩
theorem lv_more (R : List Lv) (y : Lv) : (R ++ [y]).flatMap Lv.vals = R.flatMap Lv.vals ++ y.vals := by rw [List.flatMap_append]; simp
theorem lv_length (R : List Lv) (y : Lv) : (R ++ [y]).length = R.length + 1 := by rw [List.length_append]; rfl
/-- Where the last level's cells are. -/
theorem TxW.last {base : Nat} {W : World} {v : Value} {R : List Lv} {y : Lv} {bs : List UInt8} (h : TxW base W v (R ++ [y]) bs) : ∃ g cp, v = .slice (some ⟨g, 0, none⟩) (R.length + 1) cp ∧ base + 2 ≤ g ∧ g < W.heap.size ∧ R.length + 1 ≤ cp ∧
    W.cell? ⟨g, R.length * 3, none⟩ = some (.pointer (some ⟨y.b, y.o, none⟩)) ∧ W.cell? ⟨g, R.length * 3 + 1, none⟩ = some (.int .i64 (y.told : Int)) ∧ W.cell? ⟨g, R.length * 3 + 2, none⟩ = some (.string (Ident.mk y.e)) ∧ ∀ o, W.frozen? ⟨g, o, none⟩ = false := by
  have ho := h.own
  have hlen := lv_length R y
  rw [lv_length] at ho
  rcases ho.2 with ⟨_, h0⟩ | ⟨g, cp, cur, rfl, hg, hh, hn, _⟩
  · exact absurd h0 (Nat.succ_ne_zero _)
  · have hgt : ∀ i, i < 3 → W.cell? ⟨g, R.length * 3 + i, none⟩ = y.vals[i]? := fun i hi => by
      rw [ho.cellAt (R.length * 3 + i) (by omega), flat_get Lv.vals 3 lv_len _ _ _ (by omega) hi]
      simp [List.getD]
    exact ⟨g, cp, rfl, hg, (Array.getElem?_eq_some_iff.1 hh).1, hn, hgt 0 (by omega), hgt 1 (by omega), hgt 2 (by omega), fun o => ho.frozenAt o⟩
theorem TxW.pop {base : Nat} {W : World} {g cp : Nat} {R : List Lv} {y : Lv} {bs : List UInt8} (h : TxW base W (.slice (some ⟨g, 0, none⟩) (R.length + 1) cp) (R ++ [y]) bs) : TxW base W (.slice (some ⟨g, 0, none⟩) R.length cp) R bs := by
  refine ⟨?_, h.bld, fun z hz => h.ok z (by simp [hz]), h.sz⟩
  have ho := h.own
  rw [lv_length, lv_more] at ho
  exact ownsRow_pop (by rw [flat_len Lv.vals 3 lv_len]) ho
/-- One more of the last level's ones is told. -/
theorem TxW.next {base : Nat} {W : World} {g cp : Nat} {R : List Lv} {y : Lv} {bs : List UInt8} (h : TxW base W (.slice (some ⟨g, 0, none⟩) (R.length + 1) cp) (R ++ [y]) bs) (ht : y.told < y.r.subs.length) (hg : base + 2 ≤ g) :
    TxW base (W.setCell ⟨g, R.length * 3 + 1, none⟩ (.int .i64 ((y.told + 1 : Nat) : Int))) (.slice (some ⟨g, 0, none⟩) (R.length + 1) cp) (R ++ [{ y with told := y.told + 1 }]) bs := by
  have ho := h.own
  rw [lv_length, lv_more] at ho
  obtain ⟨h1, h2⟩ := ho.stored (R.length * 3 + 1) (.int .i64 ((y.told + 1 : Nat) : Int))
  have hK : KeepS (LtB (base + 1)) W (W.setCell ⟨g, R.length * 3 + 1, none⟩ (.int .i64 ((y.told + 1 : Nat) : Int))) := KeepS.set (by unfold LtB; omega) _
  refine ⟨?_, bld_grown h.bld ho h2, fun z hz => ?_, by simpa using h.sz⟩
  · rw [lv_length, lv_more]
    rw [List.set_append_right _ _ (by rw [flat_len Lv.vals 3 lv_len]; omega), flat_len Lv.vals 3 lv_len, show R.length * 3 + 1 - R.length * 3 = 1 by omega] at h1
    exact h1
  · rcases List.mem_append.1 hz with hz | hz
    · exact (h.ok z (by simp [hz])).kept hK
    · rw [List.mem_singleton] at hz
      subst hz
      have := (h.ok y (by simp)).kept hK
      exact ⟨this.cells, this.lt, this.lies, this.good, ht, this.few⟩
theorem TxW.lastAt {base : Nat} {W : World} {g cp : Nat} {R : List Lv} {y : Lv} {bs : List UInt8} (h : TxW base W (.slice (some ⟨g, 0, none⟩) (R.length + 1) cp) (R ++ [y]) bs) : base + 2 ≤ g ∧ g < W.heap.size ∧
    W.cell? ⟨g, R.length * 3, none⟩ = some (.pointer (some ⟨y.b, y.o, none⟩)) ∧ W.cell? ⟨g, R.length * 3 + 1, none⟩ = some (.int .i64 (y.told : Int)) ∧ W.cell? ⟨g, R.length * 3 + 2, none⟩ = some (.string (Ident.mk y.e)) ∧ ∀ o, W.frozen? ⟨g, o, none⟩ = false := by
  obtain ⟨g', cp', e, h1, h2, _, h3⟩ := h.last
  injection e with e
  injection e with e
  injection e with e
  subst e
  exact ⟨h1, h2, h3⟩
/-- The level that is about to be laid behind the others: a block of its own. -/
def Inn (base : Nat) (W : World) (nb b o : Nat) (e : List UInt8) : Prop := W.ownsRow (base + 2) 52 3 (.slice (some ⟨nb, 0, none⟩) 1 1) 1 [.pointer (some ⟨b, o, none⟩), .int .i64 0, .string (Ident.mk e)]
theorem Inn.new {base : Nat} {W : World} (b o : Nat) (h : base + 2 ≤ W.heap.size) : Inn base (W.alloc (.cells #[.pointer (some ⟨b, o, none⟩), .int .i64 0, .string ⟨#[]⟩] 52)) W.heap.size b o [] :=
  World.ownsRow_lit (base := base + 2) (e := 52) (size := 3) W #[.pointer (some ⟨b, o, none⟩), .int .i64 0, .string ⟨#[]⟩] 1 h (by decide) rfl
theorem Inn.below {base : Nat} {W W' : World} {nb b o : Nat} {e : List UInt8} (h : Inn base W nb b o e) (hb : Below W.heap.size W W') : Inn base W' nb b o e := own_below h hb
theorem Inn.wrote {base : Nat} {W W' : World} {nb b o : Nat} {e : List UInt8} (h : Inn base W nb b o e) {v : Value} {T : List Lv} {bs bs' : List UInt8} (hT : TxW base W v T bs) (hw : Wrote W (base + 1) (base + 1) bs' W') : Inn base W' nb b o e := own_wrote h hT.bld hw
theorem Inn.cells {base : Nat} {W : World} {nb b o : Nat} {e : List UInt8} (h : Inn base W nb b o e) : W.cell? ⟨nb, 0, none⟩ = some (.pointer (some ⟨b, o, none⟩)) ∧ W.cell? ⟨nb, 1, none⟩ = some (.int .i64 0) ∧ W.cell? ⟨nb, 2, none⟩ = some (.string (Ident.mk e)) ∧ (∀ i, W.frozen? ⟨nb, i, none⟩ = false) ∧ base + 2 ≤ nb := by
  have h1 := h
  unfold Inn at h1
  exact ⟨h1.cellAt 0 (by omega), h1.cellAt 1 (by omega), h1.cellAt 2 (by omega), fun i => h1.frozenAt i, (h1.lt nb rfl).1⟩
theorem Inn.shut {base : Nat} {W : World} {nb b o : Nat} {e : List UInt8} (h : Inn base W nb b o e) (e' : List UInt8) {v : Value} {T : List Lv} {bs : List UInt8} (hT : TxW base W v T bs) (hne : v.ownBlock ≠ some nb) :
    Inn base (W.setCell ⟨nb, 2, none⟩ (.string (Ident.mk e'))) nb b o e' ∧ TxW base (W.setCell ⟨nb, 2, none⟩ (.string (Ident.mk e'))) v T bs ∧ Below (base + 2) W (W.setCell ⟨nb, 2, none⟩ (.string (Ident.mk e'))) := by
  have hb := h.cells.2.2.2.2
  have h1 := h
  unfold Inn at h1
  obtain ⟨h2, h3⟩ := h1.stored 2 (.string (Ident.mk e'))
  have hK : KeepS (LtB (base + 1)) W (W.setCell ⟨nb, 2, none⟩ (.string (Ident.mk e'))) := KeepS.set (by unfold LtB; omega) _
  exact ⟨h2, ⟨ownsRow_setCell_other hT.own hne _, bld_grown hT.bld h1 h3, fun y hy => (hT.ok y hy).kept hK, by simpa using hT.sz⟩, (Below.refl _ _).setCell hb _⟩
theorem lvInfo : (Tryd.prog.info? 52).map (fun i => (i.zero, i.size, i.bytes)) = some (some (.agg #[.pointer none, .int .i64 0, .string ⟨#[]⟩]), 3, 32) := by kernel_rfl
theorem wpList_append_lv (w : World) {ops : Array Oper} {rest : List Oper} {o : Oper} {a : Act} {Q : Exit → Act → World → Prop} (hgd : o.guard = none) (s x : Operand)
    (ho : o.op = .call { callee := .builtin .append, args := #[s, x], argTypes := #[53, 53] })
    (base : Nat) (v : Value) (T : List Lv) (bs : List UInt8) (hs : a.eval s = v) (hT : TxW base w v T bs)
    (ad : Addr) (y : Lv) (hx : a.eval x = .slice (some ad) 1 1) (hnews : ∀ j u, y.vals[j]? = some u → w.cell? (ad.add j) = some u) (hok : LvOk w (base + 1) y) (hb : T.length ≤ 5000000)
    (h : ∀ v' w', TxW base w' v' (T ++ [y]) bs → Below (base + 2) w w' → wpList Tryd.prog ops Q rest (a.put o.dst v') w') : wpList Tryd.prog ops Q (o :: rest) a w := by
  obtain ⟨i, hi, hz, hsz, hby⟩ := info_parts lvInfo
  refine wpList_append_own_at w hgd s x 53 ho (base + 2) 52 i _ 3 32 Tryd.underlying53 hi hz hsz hby rfl (by omega) v T.length _ hs hT.own ad 1 1 y.vals hx rfl hnews (lv_one y) (by unfold maxLen; omega) (by omega) hT.sz (fun v' w' h2 h3 _ h5 => ?_)
  have hB : Below (base + 2) w w' := ⟨h3.os, h3.tape, h3.output, h3.size, fun k hk => h3.block k (by have := hT.sz; omega) (fun e2 => by have := (hT.own.lt k e2.symm).1; omega)⟩
  have hK : KeepS (LtB (base + 1)) w w' := KeepS.lt (hB.mono (by omega))
  refine h v' w' ⟨by rw [lv_length, lv_more]; exact h2, bld_grown hT.bld hT.own h3, fun z hz => ?_, Nat.le_trans hT.sz h3.size⟩ hB
  rcases List.mem_append.1 hz with hz | hz
  · exact (hT.ok z hz).kept hK
  · rw [List.mem_singleton] at hz
    subst hz
    exact hok.kept hK
end Go.Proofs.YtolkcblkciafiaaDoor.Range

namespace Go.Proofs.YtolkcblkciafiaaDoor.Range
open Go.RowKit Num Ident Semver
theorem tx_frame (t : Array Value) (h : t.size = 90) : ∃ F : Nat → Value, t = #[t.getD 0 undef, t.getD 1 undef, t.getD 2 undef, t.getD 3 undef, t.getD 4 undef, F 5, F 6, F 7, F 8, F 9, F 10, F 11, F 12, F 13, F 14, F 15, F 16, F 17, F 18, F 19, F 20, F 21, F 22, F 23, F 24, F 25, F 26, F 27, F 28, F 29, F 30, F 31, F 32, F 33, F 34, F 35, F 36, F 37, F 38, F 39, F 40, F 41, F 42, F 43, F 44, F 45, F 46, F 47, F 48, F 49, F 50, F 51, F 52, F 53, F 54, F 55, F 56, F 57, F 58, F 59, F 60, F 61, F 62, F 63, F 64, F 65, F 66, F 67, F 68, F 69, F 70, F 71, F 72, F 73, F 74, F 75, F 76, F 77, F 78, F 79, F 80, F 81, F 82, F 83, F 84, F 85, F 86, F 87, F 88, F 89] := ⟨fun i => t.getD i undef, arr_lit t 90 h⟩
def TxJ (w : World) (r : Rng) (x0 : Value) (m : Nat) (a' : Act) (W : World) : Prop :=
  ∃ (T : List Lv) (v : Value) (bs : List UInt8), Below w.heap.size w W ∧ TxW w.heap.size W v T bs ∧ bs ++ restT T = textR r ∧ lsum T = m ∧ m ≤ 4000000 ∧
    a'.defers = [] ∧ a'.tmps.size = 90 ∧ a'.tmps.getD 0 undef = x0 ∧ a'.tmps.getD 1 undef = .pointer (some ⟨w.heap.size, 0, none⟩) ∧ a'.tmps.getD 2 undef = .string ⟨#[]⟩ ∧ a'.tmps.getD 3 undef = .pointer (some ⟨w.heap.size + 1, 0, none⟩) ∧ a'.tmps.getD 4 undef = v
set_option maxRecDepth 100000 in
set_option maxHeartbeats 12800000 in
theorem text_any (r : Rng) (x : RV) (B : Nat) (w : World) (hx : Lies w (LtB B) r x) (hB : B ≤ w.heap.size) (hg : goodR r 0 = true) (hm : wt r ≤ 1000000) (hl : (textR r).length ≤ 100000) (ht : OpsTab w) (htab : Tab w) :
    Calls Tryd.prog 9 #[x.agg] w fun e w' => e = .returned (.string (mk (textR r))) ∧ Below w.heap.size w w' := by
  have HX := Lib.hid (hx.mono (S' := LtB w.heap.size) fun g hg _ => Nat.lt_of_lt_of_le hg hB)
  have HG := Lib.hid hg
  have HT := Lib.hid ht
  have HTab := Lib.hid htab
  have HLen := Lib.hid hl
  clear hx hB hg ht htab hl
  unfold RV.agg
  go_enter Tryd.func9, Tryd.ntmps9
  go_wp2_with fail
  have HBa : Hid (Below w.heap.size w (w.alloc (.cells #[.int .i64 x.kind, .int .u64 (x.v.a : Int), .int .u64 (x.v.b : Int), .int .u64 (x.v.c : Int), .slice x.A x.v.pre.length x.c, .slice x.B x.v.build.length x.d, .slice x.L x.n x.e] 29))) := (Below.refl _ _).alloc (Nat.le_refl _) _
  have HRx : Hid (RAt (w.alloc (.cells #[.int .i64 x.kind, .int .u64 (x.v.a : Int), .int .u64 (x.v.b : Int), .int .u64 (x.v.c : Int), .slice x.A x.v.pre.length x.c, .slice x.B x.v.build.length x.d, .slice x.L x.n x.e] 29)) w.heap.size x) := RAt.new w _ x
  have HSz : Hid ((w.alloc (.cells #[.int .i64 x.kind, .int .u64 (x.v.a : Int), .int .u64 (x.v.b : Int), .int .u64 (x.v.c : Int), .slice x.A x.v.pre.length x.c, .slice x.B x.v.build.length x.d, .slice x.L x.n x.e] 29)).heap.size = w.heap.size + 1) := by rw [size_alloc]; rfl
  generalize w.alloc (.cells #[.int .i64 x.kind, .int .u64 (x.v.a : Int), .int .u64 (x.v.b : Int), .int .u64 (x.v.c : Int), .slice x.A x.v.pre.length x.c, .slice x.B x.v.build.length x.d, .slice x.L x.n x.e] 29) = W1 at HBa HRx HSz ⊢
  refine wp_scope_back_of 0 (TxJ w r x.agg) rfl ?_ ?_
  · rintro m ⟨tm, df⟩ W ⟨T, v, bs, hb1, hT, hrest, hsum, hmm, hd, hs, t0, t1, t2, t3, t4⟩
    simp only at hd hs t0 t1 t2 t3 t4
    obtain ⟨F, hF⟩ := tx_frame tm hs
    rw [t0, t1, t2, t3, t4] at hF
    clear t0 t1 t2 t3 t4 hs
    subst hF; subst hd
    have HB1 := Lib.hid hb1
    have HT1 := Lib.hid hT
    have HR1 := Lib.hid hrest
    clear hb1 hT hrest
    by_cases h1 : T = []
    · subst h1
      have HE : Hid (bs = textR r) := by have := HR1.out; rwa [restT, List.append_nil] at this
      rcases HT1.out.own.2 with ⟨rfl, _⟩ | ⟨g, cp, cur, rfl, _⟩
      all_goals
        go_wp2_with fail
        refine (Tryd.builderString _ _ bs W HT1.out.bld (by have := HT1.out.sz; omega)).mono ?_
        rintro e w5 ⟨rfl, _, hb5, _⟩
        have HB5 := Lib.hid (HB1.out.trans (hb5.mono (Nat.le_succ _)))
        clear hb5
        go_wp2
        simp only [Exit.jump]
        go_ret
        exact ⟨by rw [HE.out]; rfl, HB5.out⟩
    · obtain ⟨R, y, rfl⟩ : ∃ R y, T = R ++ [y] := ⟨T.dropLast, T.getLast h1, (List.dropLast_concat_getLast h1).symm⟩
      obtain ⟨g, cp, rfl, hg1, hg2, hcp, e0, e1, e2, hfz⟩ := HT1.out.last
      have hRl : R.length < 4000000 := by have := lsum_len (R ++ [y]); rw [lv_length] at this; omega
      have hs1 : IntKind.i64.wrap (((R.length + 1 : Nat) : Int) - 1) = (R.length : Int) := by rw [IntKind.wrap_i64] <;> omega
      have hs2 : (R.length : Int) < ((R.length + 1 : Nat) : Int) := by omega
      have hs3 : (0 : Int) ≤ (R.length : Int) := by omega
      clear h1
      have hok := HT1.out.ok y (by simp)
      obtain ⟨_, hgl, hln, hrk, hk⟩ := right_at hok.lies hok.good
      have hk' : (y.x.kind = 9 ∨ y.x.kind = 10) ∨ y.x.kind = 11 ∧ y.x.n = 1 ∨ (y.x.kind ≠ 9 ∧ y.x.kind ≠ 10 ∧ y.x.kind ≠ 11) ∧ y.x.n = 0 := by
        rcases hk with ⟨k1, k2, _, k3⟩ | ⟨_, ⟨k1, k2⟩ | ⟨k1, _⟩ | k1⟩
        · exact .inr (.inr ⟨⟨by omega, by omega, by omega⟩, k3⟩)
        · exact .inr (.inr ⟨⟨by omega, by omega, by omega⟩, k2⟩)
        · exact .inl k1
        · exact .inr (.inl k1)
      have HW := Lib.hid (within_any y.b y.o y.x W hok.cells hok.lies.says.cap hk')
      have HGL := Lib.hid hgl
      have hlen : bs.length + y.e.length ≤ 100000 := by
        have h5 := congrArg List.length HR1.out
        rw [restT_more, lvRest] at h5
        simp only [List.length_append] at h5
        have := HLen.out
        omega
      have hto := hok.told
      clear hok hgl hk hk'
      go_wp2_with fail
      refine HW.out.mono ?_
      rintro e W2 ⟨⟨A, c, rfl, hnc, hA⟩, hb⟩
      have HT2 := Lib.hid (HT1.out.below hb)
      have HB2 := Lib.hid (HB1.out.trans (hb.mono HB1.out.size))
      have f0 : W2.cell? ⟨g, R.length * 3, none⟩ = some (.pointer (some ⟨y.b, y.o, none⟩)) := (hb.cell (p := ⟨g, R.length * 3, none⟩) hg2).trans e0
      have f1 : W2.cell? ⟨g, R.length * 3 + 1, none⟩ = some (.int .i64 (y.told : Int)) := (hb.cell (p := ⟨g, R.length * 3 + 1, none⟩) hg2).trans e1
      have f2 : W2.cell? ⟨g, R.length * 3 + 2, none⟩ = some (.string (mk y.e)) := (hb.cell (p := ⟨g, R.length * 3 + 2, none⟩) hg2).trans e2
      clear hb HT1 HB1 HW e0 e1 e2 hg2 hfz
      by_cases h2 : y.told = y.x.n
      · have h2i : (y.told : Int) = (y.x.n : Int) := by rw [h2]
        have HR2 : Hid (bs ++ y.e ++ restT R = textR r) := by
          have h5 := HR1.out
          rw [restT_more, lvRest, List.drop_eq_nil_of_le (by omega), textL, List.nil_append, ← List.append_assoc] at h5
          exact h5
        have hls : lsum R < m := by rw [lsum_more] at hsum; unfold lvW at hsum; omega
        clear h2 HR1 hsum hln
        go_wp2_with fail
        refine (writeString_any (w.heap.size + 1) (w.heap.size + 1) bs y.e W2 HT2.out.bld (by omega) (by omega) (by have := HT2.out.sz; omega)).mono ?_
        rintro e W3 ⟨rfl, hw⟩
        have HT3 := Lib.hid (HT2.out.wrote hw).pop
        have HB3 := Lib.hid (HB2.out.trans (hw.2.1.mono (Nat.le_succ _)))
        clear hw f0 f1 f2
        go_wp2
        go_step3
        exact ⟨rfl, _, ⟨R, _, _, HB3.out, HT3.out, HR2.out, rfl, by omega, rfl, rfl, rfl, rfl, rfl, rfl, rfl⟩, hls⟩
      · have hlt : y.told < y.x.n := by omega
        have hlti : (y.told : Int) < (y.x.n : Int) := by omega
        have hne2 : ¬ (y.told : Int) = (y.x.n : Int) := by omega
        have hp2 : (0 : Int) ≤ (y.told : Int) := by omega
        have hok := HT2.out.ok y (by simp)
        have htb : y.told ≤ 4000000 := by have h5 := hok.few; rw [wt_eq] at h5; have := wtL_len y.r.subs; omega
        have hyk := (right_at hok.lies hok.good).2.2.2.1
        obtain ⟨b', o', z, hLe, hSb, hcl, hcy⟩ := hok.lies.says.subs.one hlt
        have hA2 : A = some ⟨b', o', none⟩ := (hA (by omega)).trans hLe
        subst hA2
        have hmem : y.r.subs.getD y.told noRng ∈ y.r.subs := by
          rw [List.getD_eq_getElem?_getD, List.getElem?_eq_getElem (by omega)]; exact List.getElem_mem _
        have hgd := goodL_mem HGL.out hmem
        have hnx := Lib.hid (lvRest_next y (by omega) b' (o' + y.told * 7) (y.d + opens y.r.kind (y.r.subs.getD y.told noRng).kind) z hgd)
        have hwx := Lib.hid (lvW_next y (by omega) b' (o' + y.told * 7) (y.d + opens y.r.kind (y.r.subs.getD y.told noRng).kind) z (shutR y.r.kind (y.r.subs.getD y.told noRng).kind))
        have HQ2 : Hid (LvOk W2 (w.heap.size + 1) ⟨b', o' + y.told * 7, y.r.subs.getD y.told noRng, z, y.d + opens y.r.kind (y.r.subs.getD y.told noRng).kind, 0, shutR y.r.kind (y.r.subs.getD y.told noRng).kind⟩) := ⟨hcl, hSb, hcy, hgd, Nat.zero_le _, by have h5 := hok.few; rw [wt_eq] at h5; have := wt_mem hmem; show wt (y.r.subs.getD y.told noRng) ≤ 4000000; omega⟩
        have hzk : (y.r.subs.getD y.told noRng).kind = z.kind := hcy.says.kind
        have hzv : (y.r.subs.getD y.told noRng).ver = z.v := hcy.says.ver
        have ho0 : W2.cell? ⟨y.b, y.o, none⟩ = some (.int .i64 y.x.kind) := hok.cells.cells.1
        have hz0 : W2.cell? ⟨b', o' + y.told * 7, none⟩ = some (.int .i64 z.kind) := hcl.cells.1
        rw [hyk, hzk] at hnx
        rw [hyk, hzk] at hwx
        rw [hyk, hzk] at HQ2
        rw [hzv] at hnx
        generalize hqd : y.r.subs.getD y.told noRng = q at hnx hwx HQ2 hgd
        clear hqd hmem hgd hcy hcl hok hyk hLe hA h2 hzk hzv hSb
        obtain ⟨AH, hAH⟩ : ∃ l, aheadR y.x.kind z.kind y.told = l := ⟨_, rfl⟩
        obtain ⟨OP, hOP⟩ : ∃ l, openR y.x.kind z.kind = l := ⟨_, rfl⟩
        obtain ⟨MK, hMK⟩ : ∃ l, markR z.kind z.v = l := ⟨_, rfl⟩
        have HAh := Lib.hid (ahead_any g (R.length * 3) y.b y.o y.x.kind z.kind y.told W2 f0 f1 ho0)
        rw [hAH] at hnx
        rw [hAH] at HAh
        rw [hOP, hMK] at hnx
        have HOP := Lib.hid hOP
        have HMK := Lib.hid hMK
        clear hAH hOP hMK
        go_wp2_with fail
        refine HAh.out.mono ?_
        rintro e w' ⟨rfl, rfl⟩
        clear HAh
        have hl4 : bs.length + AH.length + OP.length + MK.length ≤ 100000 := by
          have h5 := congrArg List.length HR1.out
          rw [restT_more, hnx.out] at h5
          simp only [List.length_append] at h5
          have := HLen.out
          omega
        go_wp2_with fail
        refine (writeString_any (w.heap.size + 1) (w.heap.size + 1) bs AH w' HT2.out.bld (by omega) (by omega) (by have := HT2.out.sz; omega)).mono ?_
        rintro e W3 ⟨rfl, hw⟩
        have HT3 := Lib.hid (HT2.out.wrote hw)
        have HQ3 := Lib.hid (HQ2.out.kept (KeepS.lt hw.2.1))
        have HB3 := Lib.hid (HB2.out.trans (hw.2.1.mono (Nat.le_succ _)))
        clear hw f0 f1 f2 ho0 hz0 HT2 HQ2 HB2
        obtain ⟨_, hg2, f0, f1, f2, hfz⟩ := HT3.out.lastAt
        have hw1 : IntKind.i64.wrap ((y.told : Int) + 1) = ((y.told + 1 : Nat) : Int) := by rw [IntKind.wrap_i64] <;> omega
        go_upto_region 14 with (fail)
        have et : ((y.told + 1 : Nat) : Int) = (y.told : Int) + 1 := by omega
        have HT4 : Hid (TxW w.heap.size (W3.setCell ⟨g, R.length * 3 + 1, none⟩ (.int .i64 ((y.told : Int) + 1))) (.slice (some ⟨g, 0, none⟩) (R.length + 1) cp) (R ++ [{ y with told := y.told + 1 }]) (bs ++ AH)) := by
          have h5 := HT3.out.next (by omega) hg1
          rw [et] at h5
          exact h5
        have hK4 : KeepS (LtB (w.heap.size + 1)) W3 (W3.setCell ⟨g, R.length * 3 + 1, none⟩ (.int .i64 ((y.told : Int) + 1))) := KeepS.set (by unfold LtB; omega) _
        have HQ4 := Lib.hid (HQ3.out.kept hK4)
        have HB4 : Hid (Below w.heap.size w (W3.setCell ⟨g, R.length * 3 + 1, none⟩ (.int .i64 ((y.told : Int) + 1)))) := HB3.out.setCell (show w.heap.size ≤ g by omega) _
        have hgs4 : g < (W3.setCell ⟨g, R.length * 3 + 1, none⟩ (.int .i64 ((y.told : Int) + 1))).heap.size := by simpa using hg2
        clear hK4 HT3 HQ3 HB3 f0 f1 f2 hfz hg2 hw1 et
        generalize W3.setCell ⟨g, R.length * 3 + 1, none⟩ (.int .i64 ((y.told : Int) + 1)) = W4 at HT4 HQ4 HB4 hgs4 ⊢
        have hba : Below W4.heap.size W4 (W4.alloc (.cells #[.pointer (some ⟨b', o' + y.told * 7, none⟩), .int .i64 0, .string ⟨#[]⟩] 52)) := (Below.refl _ _).alloc (Nat.le_refl _) _
        have HT5 := Lib.hid (HT4.out.below hba)
        have HI5 : Hid (Inn w.heap.size (W4.alloc (.cells #[.pointer (some ⟨b', o' + y.told * 7, none⟩), .int .i64 0, .string ⟨#[]⟩] 52)) W4.heap.size b' (o' + y.told * 7) []) := Inn.new _ _ HT4.out.sz
        have HQ5 := Lib.hid (HQ4.out.kept (KeepS.of_below hba))
        have HB5 := Lib.hid (HB4.out.trans (hba.mono HB4.out.size))
        clear hba HT4 HQ4 HB4
        go_upto_region 15 with (fail)
        generalize W4.alloc (.cells #[.pointer (some ⟨b', o' + y.told * 7, none⟩), .int .i64 0, .string ⟨#[]⟩] 52) = W5 at HT5 HI5 HQ5 HB5 ⊢
        generalize hnb : W4.heap.size = nb at HI5 hgs4 ⊢
        clear hnb
        obtain ⟨_, hg5, f0, f1, f2, hfz⟩ := HT5.out.lastAt
        have ho0 := (HT5.out.ok { y with told := y.told + 1 } (by simp)).cells.cells.1
        have hz0 := HQ5.out.cells.cells.1
        simp only at f0 ho0 hz0
        have hbd : Below W5.heap.size W5 W5.drew := (Below.refl W5.heap.size W5).drew
        have HTd := Lib.hid (HT5.out.below hbd)
        have HId := Lib.hid (HI5.out.below hbd)
        have HQd := Lib.hid (HQ5.out.kept (KeepS.of_below hbd))
        have HBd := Lib.hid (HB5.out.trans (hbd.mono HB5.out.size))
        have g0 : W5.drew.cell? ⟨g, R.length * 3, none⟩ = some (.pointer (some ⟨y.b, y.o, none⟩)) := f0
        have go0 : W5.drew.cell? ⟨y.b, y.o, none⟩ = some (.int .i64 y.x.kind) := ho0
        have gz0 : W5.drew.cell? ⟨b', o' + y.told * 7, none⟩ = some (.int .i64 z.kind) := hz0
        clear hbd HT5 HI5 HQ5 HB5 f0 f1 f2 hfz ho0 hz0
        have HFin : Hid (bs ++ AH ++ OP ++ MK ++ restT (R ++ [{ y with told := y.told + 1 }] ++ [⟨b', o' + y.told * 7, q, z, y.d + opens y.x.kind z.kind, 0, shutR y.x.kind z.kind⟩]) = textR r) := by
          have h5 := HR1.out
          rw [restT_more, hnx.out] at h5
          unfold Hid
          rw [restT_more, restT_more, ← h5]
          simp only [List.append_assoc]
        have HMs : Hid (lsum (R ++ [{ y with told := y.told + 1 }] ++ [⟨b', o' + y.told * 7, q, z, y.d + opens y.x.kind z.kind, 0, shutR y.x.kind z.kind⟩]) < m) := by
          unfold Hid
          rw [lsum_more] at hsum
          rw [lsum_more, lsum_more]
          have := hwx.out
          omega
        have HMark : Hid (∀ W e, LvOk W (w.heap.size + 1) ⟨b', o' + y.told * 7, q, z, y.d + opens y.x.kind z.kind, 0, e⟩ → Below w.heap.size w W → Calls Tryd.prog 14 #[z.agg] W fun e w' => e = .returned (.string (mk MK)) ∧ Below W.heap.size W w') := fun W e h hb => by
          have hk := (right_at h.lies h.good).2.2.2.2
          have hs := h.lies.says
          have hkm : z.kind = 0 ∨ (z.kind = 9 ∨ z.kind = 10) ∨ z.kind = 11 ∨ (1 ≤ z.kind ∧ z.kind ≤ 8 ∧ goodV z.v = true) := by
            rcases hk with ⟨k1, k2, k3, _⟩ | ⟨_, ⟨k1, _⟩ | ⟨k1, _⟩ | ⟨k1, _⟩⟩
            · exact .inr (.inr (.inr ⟨k1, k2, k3⟩))
            · exact .inl k1
            · exact .inr (.inl k1)
            · exact .inr (.inr (.inl k1))
          have h5 := mark_any z W hs.pre hs.build hs.cp hs.cb hkm (by rw [HMK.out]; omega) (HT.out.keep (Keep.of_below hb)) (HTab.out.kept hb)
          rw [HMK.out] at h5
          exact h5
        refine wp_region_held_drew (S := fun w' => w' = W5.drew) (by kernel_rfl) rfl (fun hHeld => ?_)
        refine wpAnyH_take (i := 0) (oi := { dst := some 67, op := Op.move (Operand.tmp 5), type := 55, pos := "tell.go:38", after := #[], guard := none }) (v := .pointer (some ⟨g, R.length * 3, none⟩)) rfl (by kernel_rfl) (by kernel_rfl) (by kernel_rfl) (fun _ _ _ h => h) (Or.inl ⟨by rfl, fun w' hS' => by go_simp⟩) (by assumption) ?_
        simp only [Act.put, List.setIfInBounds_toArray, List.set_cons_zero, List.set_cons_succ]
        refine wpAnyH_take (i := 1) (oi := { dst := some 68, op := Op.nilCheck (Operand.tmp 67), type := 0, pos := "tell.go:38", after := #[{ on := 0, ground := Ground.data }], guard := none }) (v := .pointer (some ⟨g, R.length * 3, none⟩)) rfl (by kernel_rfl) (by kernel_rfl) (by kernel_rfl) (fun _ _ _ h => h) (Or.inl ⟨by rfl, fun w' hS' => by go_simp⟩) (by assumption) ?_
        simp only [Act.put, List.setIfInBounds_toArray, List.set_cons_zero, List.set_cons_succ]
        refine wpAnyH_take (i := 2) (oi := { dst := some 69, op := Op.fieldAddr 52 (Operand.tmp 68) 0, type := 0, pos := "tell.go:38", after := #[{ on := 1, ground := Ground.data }], guard := none }) (v := .pointer (some ⟨g, R.length * 3, none⟩)) rfl (by kernel_rfl) (by kernel_rfl) (by kernel_rfl) (fun _ _ _ h => h) (Or.inl ⟨by rfl, fun w' hS' => by go_simp⟩) (by assumption) ?_
        simp only [Act.put, List.setIfInBounds_toArray, List.set_cons_zero, List.set_cons_succ]
        refine wpAnyH_take (i := 3) (oi := { dst := some 70, op := Op.load 50 (Operand.tmp 69), type := 50, pos := "tell.go:38", after := #[{ on := 2, ground := Ground.data }], guard := none }) (v := .pointer (some ⟨y.b, y.o, none⟩)) rfl (by kernel_rfl) (by kernel_rfl) (by kernel_rfl) (fun _ _ _ h => h) (Or.inl ⟨by rfl, fun w' hS' => by subst hS'; go_simp⟩) (by assumption) ?_
        simp only [Act.put, List.setIfInBounds_toArray, List.set_cons_zero, List.set_cons_succ]
        refine wpAnyH_take (i := 4) (oi := { dst := some 71, op := Op.nilCheck (Operand.tmp 70), type := 0, pos := "tell.go:38", after := #[{ on := 3, ground := Ground.data }], guard := none }) (v := .pointer (some ⟨y.b, y.o, none⟩)) rfl (by kernel_rfl) (by kernel_rfl) (by kernel_rfl) (fun _ _ _ h => h) (Or.inl ⟨by rfl, fun w' hS' => by go_simp⟩) (by assumption) ?_
        simp only [Act.put, List.setIfInBounds_toArray, List.set_cons_zero, List.set_cons_succ]
        refine wpAnyH_take (i := 5) (oi := { dst := some 72, op := Op.fieldAddr 29 (Operand.tmp 71) 0, type := 0, pos := "tell.go:38", after := #[{ on := 4, ground := Ground.data }], guard := none }) (v := .pointer (some ⟨y.b, y.o, none⟩)) rfl (by kernel_rfl) (by kernel_rfl) (by kernel_rfl) (fun _ _ _ h => h) (Or.inl ⟨by rfl, fun w' hS' => by go_simp⟩) (by assumption) ?_
        simp only [Act.put, List.setIfInBounds_toArray, List.set_cons_zero, List.set_cons_succ]
        refine wpAnyH_take (i := 6) (oi := { dst := some 73, op := Op.load 3 (Operand.tmp 72), type := 3, pos := "tell.go:38", after := #[{ on := 5, ground := Ground.data }], guard := none }) (v := .int .i64 y.x.kind) rfl (by kernel_rfl) (by kernel_rfl) (by kernel_rfl) (fun _ _ _ h => h) (Or.inl ⟨by rfl, fun w' hS' => by subst hS'; go_simp⟩) (by assumption) ?_
        simp only [Act.put, List.setIfInBounds_toArray, List.set_cons_zero, List.set_cons_succ]
        refine wpAnyH_take (i := 7) (oi := { dst := some 74, op := Op.move (Operand.tmp 7), type := 50, pos := "tell.go:38", after := #[], guard := none }) (v := .pointer (some ⟨b', o' + y.told * 7, none⟩)) rfl (by kernel_rfl) (by kernel_rfl) (by kernel_rfl) (fun _ _ _ h => h) (Or.inl ⟨by rfl, fun w' hS' => by go_simp⟩) (by assumption) ?_
        simp only [Act.put, List.setIfInBounds_toArray, List.set_cons_zero, List.set_cons_succ]
        refine wpAnyH_take (i := 8) (oi := { dst := some 75, op := Op.nilCheck (Operand.tmp 74), type := 0, pos := "tell.go:38", after := #[{ on := 7, ground := Ground.data }], guard := none }) (v := .pointer (some ⟨b', o' + y.told * 7, none⟩)) rfl (by kernel_rfl) (by kernel_rfl) (by kernel_rfl) (fun _ _ _ h => h) (Or.inl ⟨by rfl, fun w' hS' => by go_simp⟩) (by assumption) ?_
        simp only [Act.put, List.setIfInBounds_toArray, List.set_cons_zero, List.set_cons_succ]
        refine wpAnyH_take (i := 9) (oi := { dst := some 76, op := Op.fieldAddr 29 (Operand.tmp 75) 0, type := 0, pos := "tell.go:38", after := #[{ on := 8, ground := Ground.data }], guard := none }) (v := .pointer (some ⟨b', o' + y.told * 7, none⟩)) rfl (by kernel_rfl) (by kernel_rfl) (by kernel_rfl) (fun _ _ _ h => h) (Or.inl ⟨by rfl, fun w' hS' => by go_simp⟩) (by assumption) ?_
        simp only [Act.put, List.setIfInBounds_toArray, List.set_cons_zero, List.set_cons_succ]
        refine wpAnyH_take (i := 10) (oi := { dst := some 77, op := Op.load 3 (Operand.tmp 76), type := 3, pos := "tell.go:38", after := #[{ on := 9, ground := Ground.data }], guard := none }) (v := .int .i64 z.kind) rfl (by kernel_rfl) (by kernel_rfl) (by kernel_rfl) (fun _ _ _ h => h) (Or.inl ⟨by rfl, fun w' hS' => by subst hS'; go_simp⟩) (by assumption) ?_
        simp only [Act.put, List.setIfInBounds_toArray, List.set_cons_zero, List.set_cons_succ]
        refine wpAnyH_ready (rs := [11]) (by kernel_rfl) (by simp) ?_
        refine AllReadyH.cons (o := { dst := some 78, op := Op.call { callee := Callee.value (Operand.func 18), args := #[Operand.tmp 73, Operand.tmp 77], argTypes := #[3, 3] }, type := 4, pos := "tell.go:38", after := #[{ on := 6, ground := Ground.data }, { on := 10, ground := Ground.data }], guard := none }) rfl (fun K hK => ?_) AllReadyH.nil
        go_simp
        refine (bracketed_any y.x.kind z.kind W5.drew).mono ?_
        rintro e wk1 ⟨rfl, rfl⟩
        have hb := True.intro
        clear hb hHeld
        refine hK.out _ _ rfl (fun hHeld => ?_)
        clear hK K
        try simp only [Act.put, List.setIfInBounds_toArray, List.set_cons_zero, List.set_cons_succ]
        refine wpAnyH_done (by kernel_rfl) ?_ _
        generalize W5.drew = W6 at HTd HId HQd HBd g0 go0 gz0 ⊢
        cases hbr : bracketed y.x.kind z.kind with
        | true =>
          obtain rfl : [40] = OP := by rw [← HOP.out]; unfold openR; rw [if_pos hbr]
          have hsh : shutR y.x.kind z.kind = [41] := by unfold shutR; rw [if_pos hbr]
          rw [hsh] at HQd HFin HMs
          clear hsh hnx hwx
          simp only [List.length_singleton] at hl4
          go_wp2_with fail
          refine (writeString_any (w.heap.size + 1) (w.heap.size + 1) (bs ++ AH) [40] W6 HTd.out.bld (by rw [List.length_append]; omega) (by simp) (by have := HTd.out.sz; omega)).mono ?_
          rintro e W7 ⟨rfl, hw⟩
          have HT7 := Lib.hid (HTd.out.wrote hw)
          have HI7 := Lib.hid (HId.out.wrote HTd.out hw)
          have HQ7 := Lib.hid (HQd.out.kept (KeepS.lt hw.2.1))
          have HB7 := Lib.hid (HBd.out.trans (hw.2.1.mono (Nat.le_succ _)))
          clear hw HTd HId HQd HBd g0 go0 gz0
          obtain ⟨i0, i1, i2, ifz, hnb⟩ := HI7.out.cells
          obtain ⟨s1, s2, s3⟩ := HI7.out.shut [41] HT7.out (by simp [Value.ownBlock]; omega)
          have HI8 := Lib.hid s1
          have HT8 := Lib.hid s2
          have HQ8 := Lib.hid (HQ7.out.kept (KeepS.lt (s3.mono (by omega))))
          have HB8 := Lib.hid (HB7.out.trans (s3.mono (by omega)))
          clear s1 s2 s3 HI7 HT7 HQ7 HB7
          go_upto_region 18 with (fail)
          have e41 : W7.setCell ⟨nb, 2, none⟩ (.string (mk [41])) = W7.setCell ⟨nb, 2, none⟩ (.string ⟨#[41]⟩) := rfl
          rw [e41] at HI8 HT8 HQ8 HB8
          clear e41 i0 i1 i2 ifz hnb
          generalize W7.setCell ⟨nb, 2, none⟩ (.string ⟨#[41]⟩) = W8 at HI8 HT8 HQ8 HB8 ⊢
          obtain ⟨c0, c1, c2, c3, c4, c5, c6⟩ := HQ8.out.cells.cells
          simp only at c0 c1 c2 c3 c4 c5 c6
          go_wp2_with fail
          refine (HMark.out _ _ HQ8.out HB8.out).mono ?_
          rintro e W9 ⟨rfl, hb⟩
          have HT9 := Lib.hid (HT8.out.below hb)
          have HI9 := Lib.hid (HI8.out.below hb)
          have HQ9 := Lib.hid (HQ8.out.kept (KeepS.of_below hb))
          have HB9 := Lib.hid (HB8.out.trans (hb.mono HB8.out.size))
          clear hb HT8 HI8 HQ8 HB8 c0 c1 c2 c3 c4 c5 c6
          go_wp2_with fail
          refine (writeString_any (w.heap.size + 1) (w.heap.size + 1) _ MK W9 HT9.out.bld (by simp only [List.length_append]; first | omega | (simp only [List.length_singleton] at hl4 ⊢; omega)) (by omega) (by have := HT9.out.sz; omega)).mono ?_
          rintro e WA ⟨rfl, hw⟩
          have HTA := Lib.hid (HT9.out.wrote hw)
          have HIA := Lib.hid (HI9.out.wrote HT9.out hw)
          have HQA := Lib.hid (HQ9.out.kept (KeepS.lt hw.2.1))
          have HBA := Lib.hid (HB9.out.trans (hw.2.1.mono (Nat.le_succ _)))
          clear hw HT9 HI9 HQ9 HB9
          obtain ⟨i0, i1, i2, ifz, _⟩ := HIA.out.cells
          have hba : Below WA.heap.size WA (WA.alloc (.cells #[.pointer (some ⟨b', o' + y.told * 7, none⟩), .int .i64 0, .string (mk [41])] 52)) := (Below.refl _ _).alloc (Nat.le_refl _) _
          have HTC := Lib.hid (HTA.out.below hba)
          have HQC := Lib.hid (HQA.out.kept (KeepS.of_below hba))
          have HBC := Lib.hid (HBA.out.trans (hba.mono HBA.out.size))
          clear hba HTA HQA HBA
          go_wp2_with (first
            | (at_builtin; refine wpList_append_lv _ rfl _ _ rfl w.heap.size _ (R ++ [{ y with told := y.told + 1 }]) _ (by first | rfl | (rw [lv_length]; rfl)) HTC.out ⟨WA.heap.size, 0, none⟩ ⟨b', o' + y.told * 7, q, z, y.d + opens y.x.kind z.kind, 0, [41]⟩ rfl (fun j u hu => news_new WA _ _ j u hu) HQC.out (by rw [lv_length]; omega) ?_; intro v' w6 hTn hb6; have HTN := Lib.hid hTn; have HBN := Lib.hid (HBC.out.trans (hb6.mono (by omega))); clear hTn hb6)
            | fail)
          go_step3
          exact ⟨rfl, _, ⟨_, v', _, HBN.out, HTN.out, HFin.out, rfl, Nat.le_trans (Nat.le_of_lt HMs.out) hmm, rfl, rfl, rfl, rfl, rfl, rfl, rfl⟩, HMs.out⟩
        | false =>
          obtain rfl : [] = OP := by rw [← HOP.out]; unfold openR; rw [if_neg (by rw [hbr]; simp)]
          have hsh : shutR y.x.kind z.kind = [] := by unfold shutR; rw [if_neg (by rw [hbr]; simp)]
          rw [hsh] at HQd HFin HMs
          rw [List.append_nil] at HFin
          clear hsh hnx hwx g0 go0 gz0
          simp only [List.length_nil] at hl4
          go_upto_region 18 with (fail)
          obtain ⟨c0, c1, c2, c3, c4, c5, c6⟩ := HQd.out.cells.cells
          simp only at c0 c1 c2 c3 c4 c5 c6
          go_wp2_with fail
          refine (HMark.out _ _ HQd.out HBd.out).mono ?_
          rintro e W9 ⟨rfl, hb⟩
          have HT9 := Lib.hid (HTd.out.below hb)
          have HI9 := Lib.hid (HId.out.below hb)
          have HQ9 := Lib.hid (HQd.out.kept (KeepS.of_below hb))
          have HB9 := Lib.hid (HBd.out.trans (hb.mono HBd.out.size))
          clear hb HTd HId HQd HBd c0 c1 c2 c3 c4 c5 c6
          go_wp2_with fail
          refine (writeString_any (w.heap.size + 1) (w.heap.size + 1) _ MK W9 HT9.out.bld (by simp only [List.length_append]; first | omega | (simp only [List.length_singleton] at hl4 ⊢; omega)) (by omega) (by have := HT9.out.sz; omega)).mono ?_
          rintro e WA ⟨rfl, hw⟩
          have HTA := Lib.hid (HT9.out.wrote hw)
          have HIA := Lib.hid (HI9.out.wrote HT9.out hw)
          have HQA := Lib.hid (HQ9.out.kept (KeepS.lt hw.2.1))
          have HBA := Lib.hid (HB9.out.trans (hw.2.1.mono (Nat.le_succ _)))
          clear hw HT9 HI9 HQ9 HB9
          obtain ⟨i0, i1, i2, ifz, _⟩ := HIA.out.cells
          have hba : Below WA.heap.size WA (WA.alloc (.cells #[.pointer (some ⟨b', o' + y.told * 7, none⟩), .int .i64 0, .string (mk [])] 52)) := (Below.refl _ _).alloc (Nat.le_refl _) _
          have HTC := Lib.hid (HTA.out.below hba)
          have HQC := Lib.hid (HQA.out.kept (KeepS.of_below hba))
          have HBC := Lib.hid (HBA.out.trans (hba.mono HBA.out.size))
          clear hba HTA HQA HBA
          go_wp2_with (first
            | (at_builtin; refine wpList_append_lv _ rfl _ _ rfl w.heap.size _ (R ++ [{ y with told := y.told + 1 }]) _ (by first | rfl | (rw [lv_length]; rfl)) HTC.out ⟨WA.heap.size, 0, none⟩ ⟨b', o' + y.told * 7, q, z, y.d + opens y.x.kind z.kind, 0, []⟩ rfl (fun j u hu => news_new WA _ _ j u hu) HQC.out (by rw [lv_length]; omega) ?_; intro v' w6 hTn hb6; have HTN := Lib.hid hTn; have HBN := Lib.hid (HBC.out.trans (hb6.mono (by omega))); clear hTn hb6)
            | fail)
          go_step3
          exact ⟨rfl, _, ⟨_, v', _, HBN.out, HTN.out, HFin.out, rfl, Nat.le_trans (Nat.le_of_lt HMs.out) hmm, rfl, rfl, rfl, rfl, rfl, rfl, rfl⟩, HMs.out⟩
  · intro HP
    obtain ⟨g1, g2, c0, c1, c2, c3, c4, c5, c6⟩ := HRx.out
    have hgr := right_at HX.out HG.out
    have hba : Below W1.heap.size W1 (W1.alloc (.cells #[.pointer none, .slice none 0 0] 45)) := (Below.refl _ _).alloc (Nat.le_refl _) _
    have HB2 := Lib.hid (HBa.out.trans (hba.mono HBa.out.size))
    have HL2 := Lib.hid (Bld.new W1 (w.heap.size + 1) (by rw [HSz.out]; exact Nat.le_refl _))
    rw [HSz.out] at HL2
    have HR2 : Hid (RAt (W1.alloc (.cells #[.pointer none, .slice none 0 0] 45)) w.heap.size x) := HRx.out.kept hba g1
    have HZ2 : Hid ((W1.alloc (.cells #[.pointer none, .slice none 0 0] 45)).heap.size = w.heap.size + 2) := by rw [Hid, size_alloc, HSz.out]
    have hsz := HSz.out
    clear hba
    go_upto_region 2 with (fail)
    clear c0 c1 c2 c3 c4 c5 c6 g1 g2 HRx HBa HSz hsz
    generalize W1.alloc (.cells #[.pointer none, .slice none 0 0] 45) = W2 at HB2 HL2 HR2 HZ2 ⊢
    obtain ⟨g1, g2, c0, c1, c2, c3, c4, c5, c6⟩ := HR2.out
    obtain ⟨_, _, hln, hrk, hk⟩ := hgr
    have hs := HX.out.says
    have htx := text_good HG.out
    rw [hrk, hs.ver] at htx
    have hkm : x.kind = 0 ∨ (x.kind = 9 ∨ x.kind = 10) ∨ x.kind = 11 ∨ (1 ≤ x.kind ∧ x.kind ≤ 8 ∧ goodV x.v = true) := by
      rcases hk with ⟨k1, k2, k3, _⟩ | ⟨_, ⟨k1, _⟩ | ⟨k1, _⟩ | ⟨k1, _⟩⟩
      · exact .inr (.inr (.inr ⟨k1, k2, k3⟩))
      · exact .inl k1
      · exact .inr (.inl k1)
      · exact .inr (.inr (.inl k1))
    have hml : (markR x.kind x.v).length ≤ 100000 := by
      have := HLen.out
      rw [htx, List.length_append] at this
      omega
    have HTX := Lib.hid htx
    have hml2 : (markR x.kind x.v).length ≤ 1000000 := by omega
    have HMk := Lib.hid (mark_any x W2 (hs.pre.kept HB2.out) (hs.build.kept HB2.out) hs.cp hs.cb hkm hml2 (HT.out.keep (Keep.of_below HB2.out)) (HTab.out.kept HB2.out))
    clear htx hk hkm hs hml2
    generalize markR x.kind x.v = MK at HTX HMk hml
    go_wp2_with fail
    refine HMk.out.mono ?_
    rintro e W3 ⟨rfl, hb⟩
    have HB3 := Lib.hid (HB2.out.trans (hb.mono HB2.out.size))
    have HL3 := Lib.hid (HL2.out.kept hb)
    have HR3 : Hid (RAt W3 w.heap.size x) := HR2.out.kept hb (by rw [HZ2.out]; omega)
    have hz3 : w.heap.size + 2 ≤ W3.heap.size := by have := hb.size; rw [HZ2.out] at this; exact this
    clear hb HB2 HL2 HR2 HZ2 HMk c0 c1 c2 c3 c4 c5 c6 g1 g2
    go_wp2_with fail
    refine (writeString_any (w.heap.size + 1) (w.heap.size + 1) [] MK W3 HL3.out (Nat.zero_le _) (by omega) (by omega)).mono ?_
    rintro e W4 ⟨rfl, hw⟩
    have HB4 := Lib.hid (HB3.out.trans (hw.2.1.mono (Nat.le_succ _)))
    have HL4 := Lib.hid hw.1
    have HR4 : Hid (RAt W4 w.heap.size x) := HR3.out.kept hw.2.1 (Nat.lt_succ_self _)
    have hz4 : w.heap.size + 2 ≤ W4.heap.size := Nat.le_trans hz3 hw.2.1.size
    clear hw HB3 HL3 HR3 hz3
    go_wp2
    go_step3
    rename_i hK
    have hba : Below W4.heap.size W4 (W4.alloc (.cells #[.pointer (some ⟨w.heap.size, 0, none⟩), .int .i64 0, .string ⟨#[]⟩] 52)) := (Below.refl _ _).alloc (Nat.le_refl _) _
    have HB5 := Lib.hid (HB4.out.trans (hba.mono HB4.out.size))
    obtain ⟨g1, g2, c0, c1, c2, c3, c4, c5, c6⟩ := HR4.out.kept hba (by omega)
    have HX5 : Hid (Lies (W4.alloc (.cells #[.pointer (some ⟨w.heap.size, 0, none⟩), .int .i64 0, .string ⟨#[]⟩] 52)) (LtB (w.heap.size + 1)) r x) := (HX.out.keep (KeepS.lt HB5.out)).mono fun g hg _ => Nat.lt_succ_of_lt hg
    refine hK _ _ (HP.out (lsum [⟨w.heap.size, 0, r, x, 0, 0, []⟩]) _ _ ⟨[⟨w.heap.size, 0, r, x, 0, 0, []⟩], _, [] ++ MK, HB5.out, ⟨World.ownsRow_lit (base := w.heap.size + 2) (e := 52) (size := 3) W4 #[.pointer (some ⟨w.heap.size, 0, none⟩), .int .i64 0, .string ⟨#[]⟩] 1 hz4 (by decide) rfl, HL4.out.kept hba, ?_, Nat.le_trans hz4 hba.size⟩, ?_, rfl, ?_, rfl, rfl, rfl, rfl, rfl, rfl, rfl⟩)
    · intro y hy
      rw [List.mem_singleton] at hy
      subst hy
      exact ⟨CellsAt.of c0 c1 c2 c3 c4 c5 c6, Nat.lt_succ_self _, HX5.out, HG.out, Nat.zero_le _, by show wt r ≤ 4000000; omega⟩
    · rw [HTX.out]
      simp [restT, lvRest, hrk]
    · simp only [lsum, lvW, List.drop_zero]
      rw [wt_eq] at hm
      omega
end Go.Proofs.YtolkcblkciafiaaDoor.Range

namespace Go.Proofs.YtolkcblkciafiaaDoor.Range
open Go.RowKit Num Ident Semver
theorem back_facts (l : List UInt8) : ∃ f q r, pread l = (f, q, r) ∧ (f ≠ 0 → r = noRng) ∧ (f = 0 → goodR r 0 = true ∧ (textR r).length ≤ 6 * l.length ∧ pread (textR r) = (0, 0, r)) ∧ wt r ≤ 12 * l.length + 1 := by
  have h1 := wt_pread l
  have h2 : (pread l).1 ≠ 0 → (pread l).2.2 = noRng := fun h => pread_bad h
  have h3 : (pread l).1 = 0 → goodR (pread l).2.2 0 = true ∧ (textR (pread l).2.2).length ≤ 6 * l.length ∧ pread (textR (pread l).2.2) = (0, 0, (pread l).2.2) := fun h => by
    have h4 := (pread_ok.1 h).1
    have h5 := read_good h4
    have h6 := read_short h4
    have h7 := blanks_len l
    have h8 : (pread l).2.2 = (exprF (pone 64) (blanks l)).2.2 := congrArg (fun t => t.2.2) (pread_range h)
    rw [h8]
    exact ⟨h5, by omega, text_back h5⟩
  generalize pread l = t at h1 h2 h3
  obtain ⟨f, q, r⟩ := t
  exact ⟨f, q, r, rfl, h2, h3, h1⟩
set_option maxRecDepth 100000 in
set_option maxHeartbeats 6400000 in
theorem rangeBack_any (s : ByteArray) (w : World) (hs : s.size ≤ maxLen) (htab : Tab w) (ht : OpsTab w) :
    Calls Tryd.prog 3 #[.string s] w fun e w' => e = .returned (.bool true) ∧ Below w.heap.size w w' := by
  have HT := Lib.hid ht
  have HTab := Lib.hid htab
  clear ht htab
  unfold maxLen at hs
  go_enter Tryd.func3, Tryd.ntmps3
  go_wp2_with fail
  refine (awake_any _ HT.out).mono ?_
  rintro e W1 ⟨rfl, hb⟩
  have HB1 := Lib.hid hb
  clear hb
  by_cases h1 : 400 < s.size
  · have hc : (400 : Int) < (s.size : Int) := by omega
    go_wp2
    go_ret
    exact ⟨rfl, HB1.out⟩
  · have hc : ¬ (400 : Int) < (s.size : Int) := by omega
    have hs4 : s.size ≤ 400 := by omega
    obtain ⟨f, q, r, k1, k2, k3, k4⟩ := back_facts s.data.toList
    have hl : s.data.toList.length = s.size := by simp
    rw [hl] at k3 k4
    have HK1 := Lib.hid k1
    have HK2 := Lib.hid k2
    have HK3 := Lib.hid k3
    have hwt : wt r ≤ 1000000 := by omega
    clear k1 k2 k3 k4 hl h1 hs
    go_wp2_with fail
    refine (read_any s _ (by omega) (HT.out.keep (Keep.of_below HB1.out))).mono ?_
    rw [HK1.out]
    rintro e V1 ⟨x, rfl, lx, hb⟩
    unfold RV.agg
    simp only at lx ⊢
    have HB2 : Hid (Below w.heap.size w (V1.alloc (.cells #[.int .i64 x.kind, .int .u64 (x.v.a : Int), .int .u64 (x.v.b : Int), .int .u64 (x.v.c : Int), .slice x.A x.v.pre.length x.c, .slice x.B x.v.build.length x.d, .slice x.L x.n x.e] 29))) := (HB1.out.trans (hb.mono HB1.out.size)).alloc (Nat.le_trans HB1.out.size hb.size) _
    have HX2 : Hid (Lies (V1.alloc (.cells #[.int .i64 x.kind, .int .u64 (x.v.a : Int), .int .u64 (x.v.b : Int), .int .u64 (x.v.c : Int), .slice x.A x.v.pre.length x.c, .slice x.B x.v.build.length x.d, .slice x.L x.n x.e] 29)) (LtB (V1.alloc (.cells #[.int .i64 x.kind, .int .u64 (x.v.a : Int), .int .u64 (x.v.b : Int), .int .u64 (x.v.c : Int), .slice x.A x.v.pre.length x.c, .slice x.B x.v.build.length x.d, .slice x.L x.n x.e] 29)).heap.size) r x) := (lx.keep (KeepS.alloc _ _)).mono fun _ _ h => h
    have HR2 : Hid (RAt (V1.alloc (.cells #[.int .i64 x.kind, .int .u64 (x.v.a : Int), .int .u64 (x.v.b : Int), .int .u64 (x.v.c : Int), .slice x.A x.v.pre.length x.c, .slice x.B x.v.build.length x.d, .slice x.L x.n x.e] 29)) V1.heap.size x) := RAt.new V1 _ x
    clear hb lx HB1
    go_upto_region 6 with (fail)
    generalize V1.alloc (.cells #[.int .i64 x.kind, .int .u64 (x.v.a : Int), .int .u64 (x.v.b : Int), .int .u64 (x.v.c : Int), .slice x.A x.v.pre.length x.c, .slice x.B x.v.build.length x.d, .slice x.L x.n x.e] 29) = V2 at HB2 HX2 HR2 ⊢
    obtain ⟨y1, y2, c0, c1, c2, c3, c4, c5, c6⟩ := HR2.out
    by_cases h0 : f = 0
    · subst h0
      obtain ⟨k1, k2, k3⟩ := HK3.out rfl
      have HG := Lib.hid k1
      have hl6 : (textR r).length ≤ 2400 := by omega
      have HP := Lib.hid k3
      clear k1 k2 k3 HK1 HK2 HK3
      go_wp2_with fail
      refine (text_any r x V2.heap.size V2 HX2.out (Nat.le_refl _) HG.out hwt (by omega) (HT.out.keep (Keep.of_below HB2.out)) (HTab.out.kept HB2.out)).mono ?_
      rintro e V3 ⟨rfl, hb⟩
      have HB3 := Lib.hid (HB2.out.trans (hb.mono HB2.out.size))
      have HX3 : Hid (Lies V3 (LtB V2.heap.size) r x) := HX2.out.keep (KeepS.of_below hb)
      have HR3 := Lib.hid (HR2.out.kept hb y1)
      have hz3 : V2.heap.size ≤ V3.heap.size := hb.size
      clear hb y1 y2 c0 c1 c2 c3 c4 c5 c6 HB2 HX2 HR2
      go_wp2_with fail
      refine (read_any (mk (textR r)) V3 (by rw [mk_size]; omega) (HT.out.keep (Keep.of_below HB3.out))).mono ?_
      rw [show (mk (textR r)).data.toList = textR r from rfl, HP.out]
      rintro e V4 ⟨y, rfl, ly, hb⟩
      unfold RV.agg
      simp only at ly ⊢
      have hba := hb.alloc hb.size (.cells #[.int .i64 y.kind, .int .u64 (y.v.a : Int), .int .u64 (y.v.b : Int), .int .u64 (y.v.c : Int), .slice y.A y.v.pre.length y.c, .slice y.B y.v.build.length y.d, .slice y.L y.n y.e] 29)
      have HB5 : Hid (Below w.heap.size w (V4.alloc (.cells #[.int .i64 y.kind, .int .u64 (y.v.a : Int), .int .u64 (y.v.b : Int), .int .u64 (y.v.c : Int), .slice y.A y.v.pre.length y.c, .slice y.B y.v.build.length y.d, .slice y.L y.n y.e] 29))) := HB3.out.trans (hba.mono HB3.out.size)
      have HX5 : Hid (Lies (V4.alloc (.cells #[.int .i64 y.kind, .int .u64 (y.v.a : Int), .int .u64 (y.v.b : Int), .int .u64 (y.v.c : Int), .slice y.A y.v.pre.length y.c, .slice y.B y.v.build.length y.d, .slice y.L y.n y.e] 29)) (LtB V2.heap.size) r x) := HX3.out.keep (KeepS.of_below hba)
      have HR5 : Hid (RAt (V4.alloc (.cells #[.int .i64 y.kind, .int .u64 (y.v.a : Int), .int .u64 (y.v.b : Int), .int .u64 (y.v.c : Int), .slice y.A y.v.pre.length y.c, .slice y.B y.v.build.length y.d, .slice y.L y.n y.e] 29)) V1.heap.size x) := HR3.out.kept hba HR3.out.1
      have HY5 : Hid (Lies (V4.alloc (.cells #[.int .i64 y.kind, .int .u64 (y.v.a : Int), .int .u64 (y.v.b : Int), .int .u64 (y.v.c : Int), .slice y.A y.v.pre.length y.c, .slice y.B y.v.build.length y.d, .slice y.L y.n y.e] 29)) (LtB (V4.alloc (.cells #[.int .i64 y.kind, .int .u64 (y.v.a : Int), .int .u64 (y.v.b : Int), .int .u64 (y.v.c : Int), .slice y.A y.v.pre.length y.c, .slice y.B y.v.build.length y.d, .slice y.L y.n y.e] 29)).heap.size) r y) := (ly.keep (KeepS.alloc _ _)).mono fun _ _ h => h
      have HS5 : Hid (RAt (V4.alloc (.cells #[.int .i64 y.kind, .int .u64 (y.v.a : Int), .int .u64 (y.v.b : Int), .int .u64 (y.v.c : Int), .slice y.A y.v.pre.length y.c, .slice y.B y.v.build.length y.d, .slice y.L y.n y.e] 29)) V4.heap.size y) := RAt.new V4 _ y
      have hz5 : V2.heap.size ≤ (V4.alloc (.cells #[.int .i64 y.kind, .int .u64 (y.v.a : Int), .int .u64 (y.v.b : Int), .int .u64 (y.v.c : Int), .slice y.A y.v.pre.length y.c, .slice y.B y.v.build.length y.d, .slice y.L y.n y.e] 29)).heap.size := Nat.le_trans hz3 hba.size
      clear hb hba ly HB3 HX3 HR3 hz3 HP
      go_upto_region 9 with (fail)
      generalize V4.alloc (.cells #[.int .i64 y.kind, .int .u64 (y.v.a : Int), .int .u64 (y.v.b : Int), .int .u64 (y.v.c : Int), .slice y.A y.v.pre.length y.c, .slice y.B y.v.build.length y.d, .slice y.L y.n y.e] 29) = V5 at HB5 HX5 HR5 HY5 HS5 hz5 ⊢
      obtain ⟨x1, x2, a0, a1, a2, a3, a4, a5, a6⟩ := HR5.out
      obtain ⟨y1, y2, b0, b1, b2, b3, b4, b5, b6⟩ := HS5.out
      go_wp2_with fail
      refine (goodAll_any r x V2.heap.size V5 (by omega) HX5.out hz5 HG.out).mono ?_
      rintro e V6 ⟨rfl, hb⟩
      have HB6 := Lib.hid (HB5.out.trans (hb.mono HB5.out.size))
      have HX6 : Hid (Lies V6 (LtB V6.heap.size) r x) := (HX5.out.keep (KeepS.of_below hb)).mono fun g hg _ => Nat.lt_of_lt_of_le hg (Nat.le_trans hz5 hb.size)
      have HY6 : Hid (Lies V6 (LtB V6.heap.size) r y) := (HY5.out.keep (KeepS.of_below hb)).mono fun _ _ h => h
      have HR6 := Lib.hid (HR5.out.kept hb x1)
      have HS6 := Lib.hid (HS5.out.kept hb y1)
      clear hb x1 x2 a0 a1 a2 a3 a4 a5 a6 y1 y2 b0 b1 b2 b3 b4 b5 b6 HB5 HX5 HR5 HY5 HS5
      obtain ⟨x1, x2, a0, a1, a2, a3, a4, a5, a6⟩ := HR6.out
      obtain ⟨y1, y2, b0, b1, b2, b3, b4, b5, b6⟩ := HS6.out
      go_wp2_with fail
      refine (same_of r y x (LtB V6.heap.size) V6 HY6.out HX6.out (fun _ h => h) (by omega)).mono ?_
      rintro e V7 ⟨rfl, hb⟩
      have HB7 := Lib.hid (HB6.out.trans (hb.mono HB6.out.size))
      clear hb
      go_wp2
      go_ret
      exact ⟨rfl, HB7.out⟩
    · have hr := HK2.out h0
      subst hr
      have e1 : ((f : Int) != 0) = true := by simp [h0]
      clear HK1 HK2 HK3 h0
      go_wp2_with fail
      refine (same_of noRng x (zeroRV 0) (LtB V2.heap.size) V2 HX2.out (Lies.zero _ _ 0) (fun _ h => h) (by decide)).mono ?_
      rintro e V3 ⟨rfl, hb⟩
      have HB3 := Lib.hid (HB2.out.trans (hb.mono HB2.out.size))
      clear hb
      go_wp2
      go_ret
      exact ⟨rfl, HB3.out⟩
end Go.Proofs.YtolkcblkciafiaaDoor.Range

namespace Go.Proofs.YtolkcblkciafiaaDoor.Range
open Go.Lib Num Ident
variable {H : Type}
theorem cells_of_strs {enc : TypeId × Value → H} {P : Program} {w : World} {base : Nat} {sp : Nat → Bool} {held : Bool} {fuel : Nat} {t e : TypeId} {n : Nat} {cs : List Value} {bs : List (List UInt8)} {p : List MemPlace}
    (ht : P.underlying t = some (.array n e)) (he : P.underlying e = some .string) (hce : P.cellsOf e = 1) (hct : P.cellsOf t = n)
    (h : DataW.trod enc P w base sp held fuel t cs = some (.agg (bs.map fun b => .lit (.string b)), p)) : cs = bs.map fun b => Value.string (mk b) := by
  cases fuel with
  | zero => simp [DataW.trod] at h
  | succ fuel =>
    simp only [DataW.trod, ht, hce, hct, Nat.mul_one] at h
    split at h
    · rename_i hl
      obtain ⟨xs, hm, hx⟩ := Option.map_eq_some_iff.1 h
      have hxs : xs.map (·.1) = bs.map fun b => (DataW.lit (.string b) : DataW H) := by
        have := congrArg Prod.fst hx
        simpa using this
      have hxl : xs.length = n := by simpa using mapM_length hm
      have hzl : bs.length = n := by
        have := congrArg List.length hxs
        simp at this
        omega
      apply List.ext_getElem?
      intro i
      by_cases hi : i < n
      · obtain ⟨b, hb, hf⟩ := mapM_at hm i i (by simp [hi])
        obtain ⟨s, hc, rfl, _⟩ := DataW.trod_string he hf
        have h1 : cs[i]? = some (.string s) := by
          have := congrArg (·[0]?) hc
          simpa [List.getElem?_take, List.getElem?_drop] using this
        have h2 : (xs.map (·.1))[i]? = some (DataW.lit (.string s.data.toList) : DataW H) := by simp [hb]
        rw [hxs] at h2
        simp only [List.getElem?_map, Option.map_eq_some_iff, DataW.lit.injEq, Lit.string.injEq] at h2
        obtain ⟨z', hz', e2⟩ := h2
        simp only [List.getElem?_map, hz', Option.map_some, h1, e2]
        rfl
      · rw [List.getElem?_eq_none (by omega), List.getElem?_eq_none (by simp; omega)]
    · cases h

theorem opsTab_of_head {W : World} {rest : List (String × DataW Unit)} {g : Nat} {t e : TypeId}
    (hg : Tryd.prog.globalNamed "ferrule/rangeexpr.ops" = some g) (hgn : g = 0) (hty : (Tryd.prog.globals[g]?).map (·.type) = some t) (ht : Tryd.prog.underlying t = some (.array 8 e)) (he : Tryd.prog.underlying e = some .string) (hce : Tryd.prog.cellsOf e = 1) (hct : Tryd.prog.cellsOf t = 8)
    (h : laidMet Tryd.prog (("ferrule/rangeexpr.ops", .agg (ops.map fun b => .lit (.string b))) :: rest) W) : OpsTab W := by
  obtain ⟨ps, ⟨g', t', cs, fuel, p, q, hg', ht', hvar, hd, _, _⟩, _⟩ := h
  obtain rfl := Option.some.inj (hg.symm.trans hg')
  obtain rfl := Option.some.inj (hty.symm.trans ht')
  have hc := cells_of_strs ht he hce hct hd
  intro i hi
  have := World.var?_cell hg hvar i
  subst hgn
  rw [this, ← Array.getElem?_toList, hc, List.getElem?_map]
  rw [List.getElem?_eq_getElem (show i < ops.length from hi)]
  simp [List.getD, List.getElem?_eq_getElem (show i < ops.length from hi)]
end Go.Proofs.YtolkcblkciafiaaDoor.Range
